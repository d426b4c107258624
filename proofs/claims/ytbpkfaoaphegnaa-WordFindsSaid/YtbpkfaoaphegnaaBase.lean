/- What every part of the proof uses, of no program in particular: what a world keeps, slices that read as lists, append of whatever source, arguments that read as data. -/
import Derived.Test.YtbpkfaoaphegnaaRows
import Derived.WalkKit
import Derived.ProofKit
import Derived.OpenShut
import Derived.Lib.Hide
import Derived.Deep.AppendLies
import Derived.Deep.AppendSrc
import Derived.Deep.Slices
import Derived.Deep.RegionHeld3
import Derived.Below
import Derived.Deep.QuietTactic
import Derived.BigQuiet
import Derived.IntWalk
namespace Go.Proofs.Ytbpkfaoaphegnaa
open Go.RowKit Go.ChangeShapes Go.WideShapes

theorem ret_bool {a b : Bool} (h : a = b) : Ending.returned (.bool a) = .returned (.bool b) := by rw [h]
theorem ret_int {k : IntKind} {a b : Int} (h : a = b) : Ending.returned (.int k a) = .returned (.int k b) := by rw [h]
theorem ret_str {a b : ByteArray} (h : a = b) : Ending.returned (.string a) = .returned (.string b) := by rw [h]

/-- only blocks of F, and new ones, turn -/
structure Fr (F : Nat → Prop) (w w' : World) : Prop where
  os : w'.os = w.os
  tape : w'.tape = w.tape
  output : w'.output = w.output
  size : w.heap.size ≤ w'.heap.size
  block : ∀ k, k < w.heap.size → ¬ F k → w'.heap[k]? = w.heap[k]?

/-- nothing that was there turns -/
abbrev Kept (w w' : World) : Prop := Fr (fun _ => False) w w'

theorem Fr.refl (F : Nat → Prop) (w : World) : Fr F w w := ⟨rfl, rfl, rfl, Nat.le_refl _, fun _ _ _ => rfl⟩
theorem Fr.trans {F : Nat → Prop} {a b c : World} (h : Fr F a b) (k : Fr F b c) : Fr F a c :=
  ⟨k.os.trans h.os, k.tape.trans h.tape, k.output.trans h.output, Nat.le_trans h.size k.size, fun i hi hn => (k.block i (Nat.lt_of_lt_of_le hi h.size) hn).trans (h.block i hi hn)⟩
theorem Fr.mono {F G : Nat → Prop} {a b : World} (h : Fr F a b) (hg : ∀ k, k < a.heap.size → F k → G k) : Fr G a b :=
  ⟨h.os, h.tape, h.output, h.size, fun i hi hn => h.block i hi (fun hf => hn (hg i hi hf))⟩
theorem Fr.of_grown {a b : World} {row : Option Nat} (h : a.grownBy b row) : Fr (fun k => row = some k) a b :=
  ⟨h.os, h.tape, h.output, h.size, fun i hi hn => h.block i hi (fun e => hn e.symm)⟩
theorem Fr.of_setCell (w : World) (a : Addr) (v : Value) : Fr (fun k => k = a.block) w (w.setCell a v) :=
  ⟨rfl, rfl, rfl, by simp [World.setCell], fun i _ hn => Below.heap_setCell _ _ _ _ hn⟩
theorem Fr.of_alloc (F : Nat → Prop) (w : World) (o : Obj) : Fr F w (w.alloc o) :=
  ⟨rfl, rfl, rfl, by simp, fun i hi _ => heap_alloc_old w o hi⟩
theorem Fr.of_drew (F : Nat → Prop) (w : World) : Fr F w w.drew := ⟨rfl, rfl, rfl, Nat.le_refl _, fun _ _ _ => rfl⟩
theorem Fr.of_drewN (F : Nat → Prop) (w : World) (n : Nat) : Fr F w (w.drewN n) := ⟨rfl, rfl, rfl, Nat.le_refl _, fun _ _ _ => rfl⟩
theorem Fr.below {F : Nat → Prop} {a b : World} {B : Nat} (h : Fr F a b) (hF : ∀ k, F k → B ≤ k) (hB : B ≤ a.heap.size) : Below B a b :=
  ⟨h.os, h.tape, h.output, h.size, fun k hk => h.block k (by omega) (fun hf => by have := hF k hf; omega)⟩
/-- what turned lies among what is new -/
theorem Fr.over {F : Nat → Prop} {a b c : World} (h : Kept a b) (k : Fr F b c) (hF : ∀ j, F j → a.heap.size ≤ j) : Kept a c :=
  ⟨k.os.trans h.os, k.tape.trans h.tape, k.output.trans h.output, Nat.le_trans h.size k.size, fun i hi _ => (k.block i (Nat.lt_of_lt_of_le hi h.size) (fun f => by have := hF i f; omega)).trans (h.block i hi (fun x => x))⟩
theorem Fr.cell {F : Nat → Prop} {a b : World} (h : Fr F a b) {g o : Nat} {v : Value} (hc : a.cell? ⟨g, o, none⟩ = some v) (hF : ¬ F g) : b.cell? ⟨g, o, none⟩ = some v := by
  have hlt : g < a.heap.size := by
    rcases Nat.lt_or_ge g a.heap.size with hlt | hge
    · exact hlt
    · simp [World.cell?, Array.getElem?_eq_none hge] at hc
  rw [← hc]
  exact World.cell?_of_block (h.block g hlt hF)

theorem Fr.grown {a b : World} (h : Kept a b) (row : Option Nat) : a.grownBy b row := ⟨h.os, h.tape, h.output, h.size, fun k hk _ => h.block k hk (fun x => x)⟩
theorem own_kept {w w' : World} {base n size : Nat} {e : TypeId} {v : Value} {xs : List Value} (h : w.ownsRow base e size v n xs) (hf : Kept w w') : w'.ownsRow base e size v n xs :=
  h.kept (hf.grown none) (by cases v.ownBlock <;> simp)
theorem own_base {w : World} {base base' n size : Nat} {e : TypeId} {v : Value} {xs : List Value} (h : w.ownsRow base e size v n xs) (hb : ∀ g, v.ownBlock = some g → base' ≤ g) : w.ownsRow base' e size v n xs := by
  refine ⟨h.1, ?_⟩
  rcases h.2 with hn | ⟨g, cap, cur, rfl, _, rest⟩
  · exact .inl hn
  · exact .inr ⟨g, cap, cur, rfl, hb g rfl, rest⟩

/-- a slice of elements of one cell that reads as l, in blocks of G -/
def Reads (w : World) (G : Nat → Prop) (v : Value) (l : List Value) : Prop :=
  ∃ ao c, v = .slice ao l.length c ∧ l.length ≤ c ∧ ∀ i x, l[i]? = some x → ∃ g off, ao = some ⟨g, off, none⟩ ∧ G g ∧ w.cell? ⟨g, off + i, none⟩ = some x

theorem Reads.kept {w w' : World} {G F : Nat → Prop} {v : Value} {l : List Value} (h : Reads w G v l) (hf : Fr F w w') (hd : ∀ k, G k → F k → False) : Reads w' G v l := by
  obtain ⟨ao, c, hv, hc, hx⟩ := h
  refine ⟨ao, c, hv, hc, fun i x hi => ?_⟩
  obtain ⟨g, off, h1, h2, h3⟩ := hx i x hi
  exact ⟨g, off, h1, h2, hf.cell h3 (fun f => hd g h2 f)⟩
theorem Reads.new {w w' : World} {G : Nat → Prop} {v : Value} {l : List Value} (h : Reads w G v l) (hf : Kept w w') : Reads w' G v l := h.kept hf (fun _ _ x => x)
theorem Reads.mono {w : World} {G G' : Nat → Prop} {v : Value} {l : List Value} (h : Reads w G v l) (hg : ∀ k, G k → G' k) : Reads w G' v l := by
  obtain ⟨ao, c, hv, hc, hx⟩ := h
  refine ⟨ao, c, hv, hc, fun i x hi => ?_⟩
  obtain ⟨g, off, h1, h2, h3⟩ := hx i x hi
  exact ⟨g, off, h1, hg g h2, h3⟩
theorem Reads.any {w : World} {G : Nat → Prop} {v : Value} {l : List Value} (h : Reads w G v l) : Reads w (fun _ => True) v l := h.mono fun _ _ => trivial
theorem Reads.of_row {w : World} {base n : Nat} {e : TypeId} {v : Value} {xs : List Value} (h : w.ownsRow base e 1 v n xs) : Reads w (fun g => base ≤ g ∧ v.ownBlock = some g) v xs := by
  have hl := h.1
  simp at hl
  rcases h.2 with ⟨rfl, rfl⟩ | ⟨g, cap, cur, rfl, hb, hgg, hnc, _, hs, htake⟩
  · have hn : xs = [] := List.eq_nil_of_length_eq_zero hl
    subst hn
    exact ⟨none, 0, rfl, by simp, fun i x hi => by simp at hi⟩
  · refine ⟨_, cap, by rw [hl], by omega, fun i x hi => ⟨g, 0, rfl, ⟨hb, rfl⟩, ?_⟩⟩
    have hc := h.cells (g := g) rfl i x hi
    have : (⟨g, 0, none⟩ : Addr).add i = ⟨g, 0 + i, none⟩ := by unfold Addr.add; split <;> simp_all
    rwa [this] at hc
theorem own_slice {w : World} {base n size : Nat} {e : TypeId} {v : Value} {xs : List Value} (h : w.ownsRow base e size v n xs) : ∃ ao c, v = .slice ao n c ∧ n ≤ c := by
  rcases h.2 with ⟨rfl, rfl⟩ | ⟨g, cap, cur, rfl, _, _, hc, _⟩
  · exact ⟨none, 0, rfl, Nat.le_refl _⟩
  · exact ⟨_, cap, rfl, hc⟩
theorem own_new {w : World} {base g : Nat} {e : TypeId} {size : Nat} (h : w.heap[g]? = some (.cells #[] e (0, 0))) (hb : base ≤ g) : w.ownsRow base e size (.slice (some ⟨g, 0, none⟩) 0 0) 0 [] :=
  ⟨by simp, .inr ⟨g, 0, #[], rfl, hb, h, Nat.le_refl _, by decide, by simp, by simp⟩⟩
theorem own_nil (w : World) (base : Nat) (e : TypeId) (size : Nat) : w.ownsRow base e size (.slice none 0 0) 0 [] := ⟨by simp, .inl ⟨rfl, rfl⟩⟩
/-- a row that has just been built -/
theorem own_built {w : World} {base g : Nat} {e : TypeId} {cs : Array Value} (h : w.heap[g]? = some (.cells cs e (0, 0))) (hb : base ≤ g) (hm : cs.size ≤ maxLen) : w.ownsRow base e 1 (.slice (some ⟨g, 0, none⟩) cs.size cs.size) cs.size cs.toList :=
  ⟨by simp, .inr ⟨g, cs.size, cs, rfl, hb, h, Nat.le_refl _, hm, by simp, by rw [List.take_of_length_le (by simp)]⟩⟩

/-- a block that has just been built reads as its cells -/
theorem reads_built {w : World} {g : Nat} {e : TypeId} {cs : Array Value} (h : w.heap[g]? = some (.cells cs e (0, 0))) : Reads w (fun k => k = g) (.slice (some ⟨g, 0, none⟩) cs.size cs.size) cs.toList :=
  ⟨_, cs.size, by simp, by simp, fun i x hi => ⟨g, 0, rfl, rfl, by
    rw [cell_of_row w g _ cs e (0, 0) h, Nat.zero_add]
    simpa using hi⟩⟩

/-- t is a slice of elements e: an element's zero, its cells, its bytes -/
structure SliceOf (P : Program) (t e : TypeId) (z : Value) (size bytes : Nat) : Prop where
  under : P.underlying t = some (.slice e)
  info : ∃ i, P.info? e = some i ∧ i.zero = some z ∧ i.size = size ∧ i.bytes = bytes
  zero : z.cells.size = size
  pos : 0 < size

theorem slice_of {P : Program} {t e : TypeId} {z : Value} {size bytes : Nat} (h : P.underlying t = some (.slice e)) (hi : (P.info? e).map (fun i => (i.zero, i.size, i.bytes)) = some (some z, size, bytes)) (hz : z.cells.size = size) (hp : 0 < size) : SliceOf P t e z size bytes := by
  obtain ⟨i0, h0, h1, h2, h3⟩ := info_parts hi
  exact ⟨h, ⟨i0, h0, h1, h2, h3⟩, hz, hp⟩

/-- what append leaves -/
def AppPost (w : World) (base : Nat) (e : TypeId) (size : Nat) (v : Value) (n : Nat) (xs : List Value) (v' : Value) (w' : World) : Prop :=
  w'.ownsRow base e size v' n xs ∧ w.grownBy w' v.ownBlock ∧ ∀ g, v'.ownBlock = some g → v.ownBlock = some g ∨ w.heap.size ≤ g

theorem run_app {P : Program} {w : World} {t tx ty e : TypeId} {z : Value} {size bytes base : Nat} (T : SliceOf P t e z size bytes) {v : Value} {n : Nat} {xs : List Value} (hown : w.ownsRow base e size v n xs)
    {x : Value} {m : Nat} {news : List Value} (hs : Src P size tx x m news w) (h63 : n + m ≤ maxLen) (hb : (n + m) * bytes ≤ 140737488355328) (hbase : base ≤ w.heap.size) :
    ∃ v' w', (Builtin.append_ #[t, tx] ty #[v, x]).run P w = .ok v' w' ∧ AppPost w base e size v (n + m) (xs ++ news) v' w' := by
  obtain ⟨i, hi, hz, rfl, rfl⟩ := T.info
  have hl := hs.newsLen
  have hzs := T.zero
  have hlen : (xs ++ news).length = (n + m) * i.size := by rw [List.length_append, hown.1, hl, Nat.add_mul]
  have grown : ∀ (old : Nat), old < n + m →
      AppPost w base e i.size v (n + m) (xs ++ news) (.slice (some ⟨w.heap.size, 0, none⟩) (n + m) (grownCap w (n + m) old e)) (w.drew.alloc (.cells ((xs ++ news).toArray ++ Builtin.zeroCells z.cells (grownCap w (n + m) old e - (n + m))) e)) := by
    intro old ho
    have hge := grownCap_ge w (n + m) old e
    have hcm : grownCap w (n + m) old e ≤ maxLen := grownCap_le_maxLen w (n + m) old e h63
    refine ⟨⟨hlen, .inr ⟨w.heap.size, _, _, rfl, hbase, heap_alloc_new w.drew _, hge, hcm, ?_, ?_⟩⟩, ⟨rfl, rfl, rfl, by simp, fun k hk _ => heap_alloc_old w.drew _ hk⟩, fun g hg => .inr ?_⟩
    · simp only [Array.size_append, List.size_toArray, size_zeroCells, hzs, hlen, ← Nat.add_mul]
      congr 1
      omega
    · simp only [Array.toList_append]
      rw [← hlen]
      exact List.take_left
    · simp [Value.ownBlock] at hg; omega
  rcases hown.2 with ⟨rfl, rfl⟩ | ⟨g, cap, cur, rfl, hbg, hg, hnc, hcm, hcs, htake⟩
  · have hx : xs = [] := List.eq_nil_of_length_eq_zero (by simpa using hown.1)
    subst hx
    by_cases hm : m = 0
    · subst hm
      have hn : news = [] := List.eq_nil_of_length_eq_zero (by simpa using hl)
      subst hn
      refine ⟨.slice none 0 0, w, ?_, own_nil w base e i.size, ⟨rfl, rfl, rfl, Nat.le_refl _, fun _ _ _ => rfl⟩, fun g hg => .inl hg⟩
      rcases hs.kind with ⟨e', hk⟩ | hk <;> simp [Builtin.append_, run_underlying T.under, run_underlying hk, sizeOf, typeInfo, hi, hs.len, hs.cells]
    · have hr := run_append_grow_src (P := P) w t tx ty e i z T.under hi hz none 0 0 [] (run_firstCells_none _ _ _ _ _) x m news hs (by omega) (by simp only [maxLen] at h63; omega) (growslice_fits (by omega) hb)
      exact ⟨_, _, hr, grown 0 (by omega)⟩
  · by_cases hroom : n + m ≤ cap
    · have hfit : n * i.size + news.length ≤ cur.size := by rw [hl, hcs, ← Nat.add_mul]; exact Nat.mul_le_mul_right _ hroom
      have hst := run_storeCells_at P g (n * i.size) e news 0 cur w hg (by simpa using hfit) hs.one
      simp only [Nat.add_zero] at hst
      have hr : (Builtin.append_ #[t, tx] ty #[.slice (some ⟨g, 0, none⟩) n cap, x]).run P w = .ok (.slice (some ⟨g, 0, none⟩) (n + m) cap) (w.setRow g (cur.toList.take (n * i.size) ++ news ++ cur.toList.drop (n * i.size + news.length)).toArray) := by
        rcases hs.kind with ⟨e', hk⟩ | hk <;> simp [Builtin.append_, run_underlying T.under, run_underlying hk, sizeOf, typeInfo, hi, hs.len, hroom, hs.cells, Addr.add_lit, hst]
      refine ⟨_, _, hr, ⟨hlen, .inr ⟨g, cap, _, rfl, hbg, setRow_heap w g cur _ e _ hg, hroom, hcm, ?_, ?_⟩⟩, ⟨rfl, rfl, rfl, by simp, fun k _ hk => setRow_other w g k _ (fun e => hk (by simp [Value.ownBlock, e]))⟩, fun g' hg' => .inl hg'⟩
      · simp only [List.size_toArray, List.length_append, List.length_take, List.length_drop, Array.length_toList]
        omega
      · rw [htake, ← hlen]
        exact List.take_left
    · have holds : ∀ j u, xs[j]? = some u → w.cell? ((⟨g, 0, none⟩ : Addr).add j) = some u := hown.cells (g := g) rfl
      have hr := run_append_grow_src (P := P) w t tx ty e i z T.under hi hz (some ⟨g, 0, none⟩) n cap xs (run_firstCells_some w.drew i.size n ⟨g, 0, none⟩ n cap xs hown.1 (by simpa using holds)) x m news hs (by omega) (by simp only [maxLen] at h63; omega) (growslice_fits (by omega) hb)
      exact ⟨_, _, hr, grown cap (by omega)⟩

theorem wp_app {P : Program} {w : World} {o : Oper} {a : Act} {K : Act → World → Prop} {Q : Exit → Act → World → Prop} (s x : Operand) (t tx : TypeId) {e : TypeId} {z : Value} {size bytes base : Nat}
    (ho : o.op = .call { callee := .builtin .append, args := #[s, x], argTypes := #[t, tx] }) (T : SliceOf P t e z size bytes) {v : Value} {n : Nat} {xs : List Value} (hv : a.eval s = v) (hown : w.ownsRow base e size v n xs)
    {y : Value} {m : Nat} {news : List Value} (hx : a.eval x = y) (hs : Src P size tx y m news w) (h63 : n + m ≤ maxLen) (hb : (n + m) * bytes ≤ 140737488355328) (hbase : base ≤ w.heap.size)
    (h : ∀ v' w', AppPost w base e size v (n + m) (xs ++ news) v' w' → K (a.put o.dst v') w') : o.wp P a w K Q := by
  obtain ⟨v', w', hr, hp⟩ := run_app (ty := o.type) T hown hs h63 hb hbase
  unfold Oper.wp execOp
  simp only [ho, resolve, invoke, builtin, Sem.run_bind, Sem.run_pure, Result.andThen_ok, List.map_toArray, List.map_cons, List.map_nil, hv, hx, hr]
  exact h v' w' hp

/-- append in a plain region -/
theorem list_app {P : Program} {w : World} {ops : Array Oper} {rest : List Oper} {o : Oper} {a : Act} {Q : Exit → Act → World → Prop} (hgd : o.guard = none) (s x : Operand) (t tx : TypeId) {e : TypeId} {z : Value} {size bytes base : Nat}
    (ho : o.op = .call { callee := .builtin .append, args := #[s, x], argTypes := #[t, tx] }) (T : SliceOf P t e z size bytes) {v : Value} {n : Nat} {xs : List Value} (hv : a.eval s = v) (hown : w.ownsRow base e size v n xs)
    {y : Value} {m : Nat} {news : List Value} (hx : a.eval x = y) (hs : Src P size tx y m news w) (h63 : n + m ≤ maxLen) (hb : (n + m) * bytes ≤ 140737488355328) (hbase : base ≤ w.heap.size)
    (h : ∀ v' w', AppPost w base e size v (n + m) (xs ++ news) v' w' → wpList P ops Q rest (a.put o.dst v') w') : wpList P ops Q (o :: rest) a w :=
  wpList_plain hgd fun _ hK => wp_app s x t tx ho T hv hown hx hs h63 hb hbase fun v' w' hp => hK _ _ (h v' w' hp)

/-- append in a region that draws its order -/
theorem step_app {P : Program} {w : World} {ops : Array Oper} {o : Oper} {a : Act} {K : Act → World → Prop} {Q : Exit → Act → World → Prop} {E : Prop} (hgd : o.guard = none) (s x : Operand) (t tx : TypeId) {e : TypeId} {z : Value} {size bytes base : Nat}
    (ho : o.op = .call { callee := .builtin .append, args := #[s, x], argTypes := #[t, tx] }) (T : SliceOf P t e z size bytes) {v : Value} {n : Nat} {xs : List Value} (hv : a.eval s = v) (hown : w.ownsRow base e size v n xs)
    {y : Value} {m : Nat} {news : List Value} (hx : a.eval x = y) (hs : Src P size tx y m news w) (h63 : n + m ≤ maxLen) (hb : (n + m) * bytes ≤ 140737488355328) (hbase : base ≤ w.heap.size)
    (h : ∀ v' w', AppPost w base e size v (n + m) (xs ++ news) v' w' → K (a.put o.dst v') w') : if Region.wanted o (yielded ops a.tmps) = true then Oper.wp P o a w K Q else E := by
  have hw : Region.wanted o (yielded ops a.tmps) = true := by simp [Region.wanted, hgd]
  rw [if_pos hw]
  exact wp_app s x t tx ho T hv hown hx hs h63 hb hbase h

/-- a slice that reads as a list is a source -/
theorem Reads.src {P : Program} {w : World} {G : Nat → Prop} {v : Value} {l : List Value} (h : Reads w G v l) {tx e' : TypeId} (hk : P.underlying tx = some (.slice e')) (h1 : ∀ u ∈ l, u.oneCell' = true) : Src P 1 tx v l.length l w := by
  obtain ⟨ao, c, rfl, hc, hx⟩ := h
  rcases l with _ | ⟨y, r⟩
  · refine ⟨.inl ⟨_, hk⟩, fun _ => rfl, ?_, ?_, rfl, fun _ h => by cases h⟩
    · cases ao <;> simp [Builtin.firstCells, loadCells, loadCellsFrom]
    · cases ao <;> simp [Builtin.firstCells, loadCells, loadCellsFrom]
  · obtain ⟨g, off, rfl, _, _⟩ := hx 0 y rfl
    refine Src.ofSlice w hk _ _ _ _ (by simp) (fun j u hj => ?_) h1
    obtain ⟨g', off', he, _, hcell⟩ := hx j u hj
    cases he
    have : (⟨g, off, none⟩ : Addr).add j = ⟨g, off + j, none⟩ := by unfold Addr.add; split <;> simp_all
    rw [this]; exact hcell

/-- behind an append, seen from where the row's blocks begin -/
theorem AppPost.kept {w0 w w' : World} {base : Nat} {e : TypeId} {size n : Nat} {v v' : Value} {xs : List Value} (h : AppPost w base e size v n xs v' w') (hf : Kept w0 w) (hv : ∀ g, v.ownBlock = some g → w0.heap.size ≤ g) :
    Kept w0 w' ∧ ∀ g, v'.ownBlock = some g → w0.heap.size ≤ g := by
  refine ⟨hf.over (Fr.of_grown h.2.1) hv, fun g hg => ?_⟩
  rcases h.2.2 g hg with h1 | h1
  · exact hv g h1
  · exact Nat.le_trans hf.size h1

/-- the cell of a block that is known whole -/
theorem cell_whole {w : World} {g : Nat} {cs : Array Value} {t : TypeId} {fr : Nat × Nat} (h : w.heap[g]? = some (.cells cs t fr)) (i : Nat) : w.cell? ⟨g, i, none⟩ = cs[i]? := cell_of_row w g i cs t fr h

/-- these cells are read as data of the type t -/
def Holds (P : Program) (w : World) (t : TypeId) (cs : List Value) : Prop :=
  ∃ (H : Type) (enc : TypeId × Value → H) (base : Nat) (spare : Nat → Bool) (held : Bool) (fuel : Nat) (x : DataW H × List MemPlace), DataW.trod enc P w base spare held fuel t cs = some x

section
variable {P : Program} {w : World} {t : TypeId} {cs : List Value}

theorem Holds.of_trod {H : Type} {enc : TypeId × Value → H} {base : Nat} {spare : Nat → Bool} {held : Bool} {v : Value} {d : DataW H} {ps : List MemPlace} (h : DataW.Trod enc P w base spare held t v d ps) : Holds P w t v.cells.toList := by
  obtain ⟨f, hf⟩ := h
  exact ⟨H, enc, base, spare, held, f, _, hf⟩
theorem Holds.int {k : IntKind} (h : Holds P w t cs) (ht : P.underlying t = some (.int k)) : ∃ n, cs = [.int k n] ∧ (Lit.int k n).wf = true := by
  obtain ⟨_, _, _, _, _, _, _, hf⟩ := h
  obtain ⟨n, h1, _, h2⟩ := DataW.trod_int ht hf
  exact ⟨n, h1, h2⟩
theorem Holds.bool (h : Holds P w t cs) (ht : P.underlying t = some .bool) : ∃ b, cs = [.bool b] := by
  obtain ⟨_, _, _, _, _, _, _, hf⟩ := h
  obtain ⟨n, h1, _⟩ := DataW.trod_bool ht hf
  exact ⟨n, h1⟩
theorem Holds.string (h : Holds P w t cs) (ht : P.underlying t = some .string) : ∃ s : ByteArray, cs = [.string s] ∧ s.size ≤ maxLen := by
  obtain ⟨_, _, _, _, _, _, _, hf⟩ := h
  obtain ⟨n, h1, _, h2⟩ := DataW.trod_string ht hf
  exact ⟨n, h1, h2⟩
theorem Holds.slice {e : TypeId} (h : Holds P w t cs) (ht : P.underlying t = some (.slice e)) :
    cs = [.slice none 0 0] ∨ ∃ (a : Addr) (len cap : Nat), cs = [.slice (some a) len cap] ∧ len ≤ cap ∧ cap ≤ maxLen ∧
      ∀ i, i < len → ∃ cs', cs'.length = P.cellsOf e ∧ (∀ j, j < P.cellsOf e → w.cell? (a.add (i * P.cellsOf e + j)) = cs'[j]?) ∧ Holds P w e cs' := by
  obtain ⟨H, enc, base, spare, held, fuel, x, hf⟩ := h
  rcases Deep.open_slice ht hf with ⟨h0, _⟩ | ⟨a, len, cap, m, n, D, Pl, h1, hb, hl, hm, hmm, _, hx⟩
  · exact .inl h0
  · refine .inr ⟨a, len, cap, h1, hl, hm, fun i hi => ?_⟩
    have him : i < m := by rw [hmm]; split <;> omega
    obtain ⟨cs', hc, hd⟩ := hx i him
    obtain ⟨_, hlen, hcell⟩ := World.cells?_some hc
    refine ⟨cs', hlen, fun j hj => ?_, H, enc, base, spare, held, n, _, hd⟩
    rw [← hcell j hj, Deep.add_add]
end

theorem spot_of_cell {w : World} {a : Addr} {v : Value} (h : w.cell? a = some v) : a.spot = none := by
  unfold World.cell? at h
  split at h
  · split at h
    · cases h
    · rename_i hs; simpa using hs
  · cases h
theorem add_of_spot {a : Addr} (i : Nat) : a.add i = { a with off := a.off + i, spot := (a.add i).spot } := by
  unfold Addr.add; split <;> simp_all
/-- the cells of a slice, by block and place -/
theorem cell_form {w : World} {a : Addr} {i : Nat} {v : Value} (h : w.cell? (a.add i) = some v) : w.cell? ⟨a.block, a.off + i, none⟩ = some v := by
  have hs := spot_of_cell h
  have : a.add i = ⟨a.block, a.off + i, none⟩ := by
    rw [add_of_spot, hs]
  rw [this] at h
  exact h

/-- a slice of one-cell elements that is read as data -/
theorem Holds.row {P : Program} {w : World} {t e : TypeId} {c : Value} {α : Type} [Inhabited α] {mk : α → Value} {R : α → Prop} (h : Holds P w t [c]) (ht : P.underlying t = some (.slice e)) (hC : P.cellsOf e = 1)
    (hQ : ∀ cs, Holds P w e cs → ∃ x, cs = [mk x] ∧ R x) : ∃ l : List α, Reads w (fun _ => True) c (l.map mk) ∧ (∀ x ∈ l, R x) ∧ l.length ≤ maxLen := by
  rcases h.slice ht with h0 | ⟨a, len, cap, h1, hl, hm, hx⟩
  · simp at h0
    subst h0
    exact ⟨[], ⟨none, 0, rfl, by simp, fun i x hi => by simp at hi⟩, by simp, Nat.zero_le _⟩
  · simp at h1
    subst h1
    have key : ∀ i, i < len → ∃ x : α, R x ∧ ∃ g off, some a = some ⟨g, off, none⟩ ∧ w.cell? ⟨g, off + i, none⟩ = some (mk x) := by
      intro i hi
      have ha : a = ⟨a.block, a.off, none⟩ := by
        obtain ⟨cs0, hl0, hc0, _⟩ := hx 0 (by omega)
        rw [hC] at hl0 hc0
        have h00 := hc0 0 (by omega)
        rw [List.getElem?_eq_getElem (by omega)] at h00
        have := spot_of_cell h00
        simp [Addr.add] at this
        cases a; simp_all
      obtain ⟨cs', hlen, hcell, hh⟩ := hx i hi
      rw [hC] at hlen hcell
      obtain ⟨x, rfl, hr⟩ := hQ cs' hh
      have := cell_form (hcell 0 (by omega))
      simp at this
      exact ⟨x, hr, a.block, a.off, ha ▸ rfl, this⟩
    obtain ⟨f, hf⟩ := Deep.choose_lt key
    refine ⟨(List.range len).map f, ⟨some a, cap, by simp, by simpa using hl, fun i x hi => ?_⟩, fun s hs => ?_, by simp; omega⟩
    · rw [List.map_map] at hi
      obtain ⟨hi', rfl⟩ := List.getElem?_eq_some_iff.1 hi
      simp at hi'
      obtain ⟨_, g, off, h1, h2⟩ := hf i hi'
      simp only [List.getElem_map, List.getElem_range]
      exact ⟨g, off, h1, trivial, h2⟩
    · obtain ⟨i, hi, rfl⟩ := List.mem_map.1 hs
      exact (hf i (by simpa using hi)).1
end Go.Proofs.Ytbpkfaoaphegnaa
