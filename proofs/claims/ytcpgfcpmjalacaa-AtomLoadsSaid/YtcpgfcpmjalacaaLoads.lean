/- AtomLoads: the walk. -/
import Derived.Test.YtcpgfcpmjalacaaRload
import Derived.Test.YtcpgfcpmjalacaaBack
import Derived.Deep.CutBlock
import Derived.Deep.DeepCutAuto
namespace Go.Proofs.Ytcpgfcpmjalacaa
open Go.RowKit Go.ChangeShapes Go.WideShapes

/-- a slice of strings that is read as data -/
theorem strs_of {w : World} {c : Value} (h : Holds Try.prog w 30 [c]) : ∃ l, Reads w (fun _ => True) c l ∧ (∀ s ∈ l, s.size ≤ maxLen) ∧ l.length ≤ maxLen := by
  rcases h.slice Try.underlying30 with h0 | ⟨a, len, cap, h1, hl, hm, hx⟩
  · simp at h0
    subst h0
    exact ⟨[], reads_nil w, by simp, by decide⟩
  · simp at h1
    subst h1
    have hC : Try.prog.cellsOf 9 = 1 := by kernel_rfl
    have key : ∀ i, i < len → ∃ s : ByteArray, s.size ≤ maxLen ∧ ∃ g off, some a = some ⟨g, off, none⟩ ∧ w.cell? ⟨g, off + i, none⟩ = some (.string s) := by
      intro i hi
      have ha : a = ⟨a.block, a.off, none⟩ := by
        obtain ⟨cs0, hl0, hc0, _⟩ := hx 0 (by omega)
        rw [hC] at hl0 hc0
        have h00 := hc0 0 (by omega)
        rw [List.getElem?_eq_getElem (by omega)] at h00
        have := spot_of_cell h00
        simp [Addr.add] at this
        cases a; simp_all
      obtain ⟨cs', hlen, hcell, hh⟩ := hx i hi
      rw [hC] at hlen hcell
      match cs', hlen with
      | [c0], _ =>
        obtain ⟨s, e1, ws⟩ := hh.string Try.underlying9
        simp at e1
        subst e1
        have := cell_form (hcell 0 (by omega))
        simp at this
        exact ⟨s, ws, a.block, a.off, ha ▸ rfl, this⟩
    have : Inhabited ByteArray := ⟨ByteArray.empty⟩
    obtain ⟨f, hf⟩ := Deep.choose_lt key
    refine ⟨(List.range len).map f, ⟨some a, cap, by simp, fun i x hi => ?_⟩, fun s hs => ?_, by simp; omega⟩
    · obtain ⟨hi', rfl⟩ := List.getElem?_eq_some_iff.1 hi
      simp at hi'
      obtain ⟨_, g, off, h1, h2⟩ := hf i hi'
      simp only [List.getElem_map, List.getElem_range]
      exact ⟨g, off, h1, trivial, h2⟩
    · obtain ⟨i, hi, rfl⟩ := List.mem_map.1 hs
      exact (hf i (by simpa using hi)).1

/-- six slices of strings -/
def Rows6At (w : World) (x : Value) : Prop :=
  ∃ (v : Nat → Value) (src : Nat → List ByteArray), x = .agg #[v 0, v 1, v 2, v 3, v 4, v 5] ∧ ∀ k, k < 6 → Reads w (fun _ => True) (v k) (src k) ∧ (∀ s ∈ src k, s.size ≤ maxLen) ∧ (src k).length ≤ maxLen

theorem rows6_of {w : World} {x : Value} {r : Reach} {b : Nat} (hval : Value.okWide Try.prog w r b 31 x) (h : Holds Try.prog w 31 x.cells.toList) : Rows6At w x := by
  simp only [Value.okWide, Try.underlying31] at hval
  obtain ⟨cs, rfl, hsz, _⟩ := hval
  have hC : Try.prog.cellsOf 31 = 6 := by kernel_rfl
  have h30 : Try.prog.cellsOf 30 = 1 := by kernel_rfl
  rw [hC] at hsz
  obtain ⟨l⟩ := cs
  match l, hsz with
  | [c0, c1, c2, c3, c4, c5], _ =>
    obtain ⟨_, hx⟩ := h.array Try.underlying31
    have g0 := hx 0 (by omega)
    have g1 := hx 1 (by omega)
    have g2 := hx 2 (by omega)
    have g3 := hx 3 (by omega)
    have g4 := hx 4 (by omega)
    have g5 := hx 5 (by omega)
    simp [h30, Value.cells] at g0 g1 g2 g3 g4 g5
    obtain ⟨l0, r0⟩ := strs_of g0
    obtain ⟨l1, r1⟩ := strs_of g1
    obtain ⟨l2, r2⟩ := strs_of g2
    obtain ⟨l3, r3⟩ := strs_of g3
    obtain ⟨l4, r4⟩ := strs_of g4
    obtain ⟨l5, r5⟩ := strs_of g5
    refine ⟨six c0 c1 c2 c3 c4 c5, fun k => match k with | 0 => l0 | 1 => l1 | 2 => l2 | 3 => l3 | 4 => l4 | _ => l5, rfl, ?_⟩
    intro k hk
    match k, hk with
    | 0, _ => exact r0
    | 1, _ => exact r1
    | 2, _ => exact r2
    | 3, _ => exact r3
    | 4, _ => exact r4
    | 5, _ => exact r5

/-- a slice of n strings in blocks from lo to hi: its cells are there, and may be written -/
def Shape (w : World) (lo hi : Nat) (v : Value) (n : Nat) : Prop :=
  ∃ ao c, v = .slice ao n c ∧ ∀ i, i < n → ∃ g, ao = some ⟨g, 0, none⟩ ∧ lo ≤ g ∧ g < hi ∧ ∃ cur : Array Value, w.heap[g]? = some (.cells cur 9 (0, 0)) ∧ i < cur.size

theorem Shape.of_row {w : World} {lo n : Nat} {v : Value} {xs : List Value} (h : w.ownsRow lo 9 1 v n xs) : Shape w lo w.heap.size v n := by
  rcases h.2 with ⟨rfl, rfl⟩ | ⟨g, cap, cur, rfl, hb, hg, hnc, _, hs, _⟩
  · exact ⟨none, 0, rfl, fun i hi => by omega⟩
  · exact ⟨_, cap, rfl, fun i hi => ⟨g, rfl, hb, (Array.getElem?_eq_some_iff.1 hg).1, cur, hg, by omega⟩⟩

theorem Shape.keep {w w' : World} {lo hi n : Nat} {v : Value} (h : Shape w lo hi v n) (hk : ∀ g, lo ≤ g → g < hi → ∀ cur, w.heap[g]? = some (.cells cur 9 (0, 0)) → ∃ cur' : Array Value, w'.heap[g]? = some (.cells cur' 9 (0, 0)) ∧ cur'.size = cur.size) : Shape w' lo hi v n := by
  obtain ⟨ao, c, hv, hx⟩ := h
  refine ⟨ao, c, hv, fun i hi => ?_⟩
  obtain ⟨g, h1, h2, h3, cur, h4, h5⟩ := hx i hi
  obtain ⟨cur', h6, h7⟩ := hk g h2 h3 cur h4
  exact ⟨g, h1, h2, h3, cur', h6, by omega⟩

theorem Shape.mono {w : World} {lo lo' hi hi' n : Nat} {v : Value} (h : Shape w lo hi v n) (h1 : lo' ≤ lo) (h2 : hi ≤ hi') : Shape w lo' hi' v n := by
  obtain ⟨ao, c, hv, hx⟩ := h
  refine ⟨ao, c, hv, fun i hi => ?_⟩
  obtain ⟨g, e1, e2, e3, e4⟩ := hx i hi
  exact ⟨g, e1, by omega, by omega, e4⟩

theorem Shape.new {w w' : World} {lo hi n : Nat} {v : Value} (h : Shape w lo hi v n) (hf : Fr (fun _ => False) w w') : Shape w' lo hi v n :=
  h.keep fun g _ _ cur hc => ⟨cur, (hf.block g (Array.getElem?_eq_some_iff.1 hc).1 (fun x => x)).trans hc, rfl⟩

theorem Shape.set {w : World} {lo hi n : Nat} {v : Value} (h : Shape w lo hi v n) (a : Addr) (u : Value) : Shape (w.setCell a u) lo hi v n :=
  h.keep fun g _ _ cur hc => by
    by_cases e : g = a.block
    · refine ⟨if a.spot.isSome then cur else cur.setIfInBounds a.off u, ?_, by split <;> simp⟩
      simp only [World.setCell, Array.getElem?_modify]
      rw [if_pos e.symm, hc]
      rfl
    · exact ⟨cur, (Below.heap_setCell _ _ _ _ e).trans hc, rfl⟩

/-- while the rows are copied: what was there is as it was, the box, the array -/
structure Copy6 (w wr : World) (A : Nat) (v : Nat → Value) (src : Nat → List ByteArray) (k : Nat) : Prop where
  fr : Fr (fun _ => False) w wr
  low : w.heap.size < A
  box : wr.heap[w.heap.size]? = some (.cells #[v 0, v 1, v 2, v 3, v 4, v 5] 31 (0, 0))
  arr : ∃ vv : Nat → Value, wr.heap[A]? = some (.cells #[vv 0, vv 1, vv 2, vv 3, vv 4, vv 5] 31 (0, 0)) ∧
    ∀ j, j < k → j < 6 → Reads wr (fun g => A < g) (vv j) (src j) ∧ Shape wr (A + 1) wr.heap.size (vv j) (src j).length

theorem Copy6.start {w w1 : World} {v : Nat → Value} {src : Nat → List ByteArray} (hf : Fr (fun _ => False) (w.alloc (.cells #[v 0, v 1, v 2, v 3, v 4, v 5] 31)) w1) :
    Copy6 w (w1.alloc (.cells #[.slice none 0 0, .slice none 0 0, .slice none 0 0, .slice none 0 0, .slice none 0 0, .slice none 0 0] 31)) w1.heap.size v src 0 := by
  have hs : w.heap.size < w1.heap.size := by have := hf.size; simp at this; omega
  refine ⟨((Fr.of_alloc _ _ _).trans hf).trans (Fr.of_alloc _ _ _), hs, ?_, fun _ => .slice none 0 0, heap_alloc_new w1 _, fun j hj => by omega⟩
  rw [heap_alloc_old _ _ hs]
  exact (hf.block _ (by simp) (fun x => x)).trans (heap_alloc_new w _)

theorem Copy6.cell {w wr : World} {A : Nat} {v : Nat → Value} {src : Nat → List ByteArray} {n : Nat} (h : Copy6 w wr A v src n) {k : Nat} (hk : k < 6) : wr.cell? ⟨w.heap.size, k, none⟩ = some (v k) := by
  rw [cell_arr h.box]; exact arr6 v hk

theorem Copy6.step {w wr w1 : World} {A : Nat} {v : Nat → Value} {src : Nat → List ByteArray} {k : Nat} {u : Value} {g : Nat} (h : Copy6 w wr A v src k) (hk : k < 6)
    (hg : wr.heap.size = g) (hp : AppPost (wr.alloc (.cells #[] 9)) wr.heap.size 9 1 (.slice (some ⟨g, 0, none⟩) 0 0) (0 + (src k).length) ([] ++ (src k).map Value.string) u w1) :
    (∃ ao c, u = .slice ao (src k).length c) ∧ (∃ x, w1.cell? ⟨A, k, none⟩ = some x) ∧ w1.frozen? ⟨A, k, none⟩ = false ∧ Copy6 w (w1.setCell ⟨A, k, none⟩ u) A v src (k + 1) := by
  rw [Nat.zero_add, List.nil_append] at hp
  obtain ⟨ao, c, rfl⟩ := own_slice hp.1
  have hf : Fr (fun _ => False) wr w1 := Fr.alloc_grown hp.2.1 (fun j hj => by simp [Value.ownBlock] at hj; omega)
  obtain ⟨vv, hA, hR⟩ := h.arr
  have hAlt : A < wr.heap.size := (Array.getElem?_eq_some_iff.1 hA).1
  have hA1 := (hf.block A hAlt (fun x => x)).trans hA
  have hset : Fr (fun b => b = A) w1 (w1.setCell ⟨A, k, none⟩ (.slice ao (src k).length c)) := (Fr.of_setCell _ _ _).mono (fun _ _ e => e)
  have hsz : (w1.setCell ⟨A, k, none⟩ (.slice ao (src k).length c)).heap.size = w1.heap.size := by simp [World.setCell]
  have hbx : w.heap.size < wr.heap.size := (Array.getElem?_eq_some_iff.1 h.box).1
  refine ⟨⟨_, _, rfl⟩, ⟨_, (cell_arr hA1 k).trans (arr6 vv hk)⟩, frozen_arr hA1 k, (h.fr.trans hf).over hset (fun b e => by have := h.low; omega), h.low, ?_, fun j => if j = k then .slice ao (src k).length c else vv j, ?_, ?_⟩
  · rw [hset.block _ (Nat.lt_of_lt_of_le hbx hf.size) (fun e => by have := h.low; omega), hf.block _ hbx (fun x => x)]
    exact h.box
  · simp only [World.setCell, Array.getElem?_modify]
    simp [hA1, set6 vv hk]
  · intro j hj hj6
    by_cases e : j = k
    · subst e
      simp only [if_true]
      refine ⟨((Reads.of_row hp.1).mono (fun g _ hg => by omega)).same hset (fun g hg e => by omega), ?_⟩
      rw [hsz]
      exact ((Shape.of_row hp.1).mono (by omega) (Nat.le_refl _)).set _ _
    · simp only [e, if_false]
      have hr := hR j (by omega) hj6
      refine ⟨(hr.1.same hf (fun _ _ x => x)).same hset (fun g hg e => by omega), ?_⟩
      rw [hsz]
      exact ((hr.2.new hf).mono (Nat.le_refl _) hf.size).set _ _
end Go.Proofs.Ytcpgfcpmjalacaa
