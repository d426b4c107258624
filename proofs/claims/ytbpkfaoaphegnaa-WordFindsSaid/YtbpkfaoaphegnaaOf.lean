/- Of of package word and of the reference. -/
import Derived.Test.YtbpkfaoaphegnaaTell
import Derived.Laws.BytesArg
import Derived.Laws.IdiomStrings
namespace Go.Proofs.Ytbpkfaoaphegnaa
set_option linter.unusedVariables false
open Go.RowKit

/-- bytes as cells -/
def bcells (l : List UInt8) : List Value := l.map (fun b => Value.int .u8 (b.toNat : Int))
theorem bcells_len (l : List UInt8) : (bcells l).length = l.length := by simp [bcells]
theorem bcells_append (l m : List UInt8) : bcells (l ++ m) = bcells l ++ bcells m := by simp [bcells]
theorem bcells_bs (s : ByteArray) : byteCells s = bcells (bs s) := rfl

/-- a row of bytes as a string -/
theorem run_to_string {w : World} {base : Nat} {v : Value} {l : List UInt8} {n : Nat} (h : w.ownsRow base 5 1 v n (bcells l)) : (convert 48 22 v).run Try.prog w = .ok (.string ⟨l.toArray⟩) w := by
  have hl : l.length = n := by have := h.1; simpa [bcells_len] using this
  rcases h.2 with ⟨rfl, h0⟩ | ⟨g, cap, cur, rfl, _⟩
  · rw [run_convert_bytes_nil w 48 5 Try.underlying48 Try.underlying5 0 0 22 Try.underlying22]
    have : l = [] := List.eq_nil_of_length_eq_zero (by omega)
    subst this; rfl
  · subst hl
    refine run_convert_bytes_back w 48 22 5 ⟨g, 0, none⟩ cap l Try.underlying48 Try.underlying5 Try.underlying22 (fun j hj => ?_)
    refine h.cells (g := g) rfl j _ ?_
    simp [bcells, List.getElem?_eq_getElem hj]

/-- a row that has the bytes of the first k atoms -/
def OfPart (w wr : World) (l : List Int) (k : Nat) (v : Value) : Prop :=
  wr.ownsRow w.heap.size 5 1 v (2 * k) (bcells (unatoms (l.take k))) ∧ Kept w wr

theorem OfPart.step {w wr wx w1 : World} {l : List Int} {k : Nat} {v v1 : Value} (h : OfPart w wr l k v) (hg : Good l) {x : Int} (hx : l[k]? = some x) (hw : Kept wr wx)
    (hp : AppPost wx w.heap.size 5 1 v (2 * k + 2) (bcells (unatoms (l.take k)) ++ [.int .u8 (x / 256), .int .u8 (x % 256)]) v1 w1) : OfPart w w1 l (k + 1) v1 := by
  have hb := hg x (List.mem_of_getElem? hx)
  refine ⟨?_, (hp.kept (h.2.trans hw) (fun g hg => (h.1.lt g hg).1)).1⟩
  have e : bcells (unatoms (l.take (k + 1))) = bcells (unatoms (l.take k)) ++ [.int .u8 (x / 256), .int .u8 (x % 256)] := by
    rw [List.take_add_one, hx, unatoms_append, bcells_append]
    simp only [Option.toList_some, unatoms, bcells, List.map_cons, List.map_nil, UInt8.toNat_ofNat']
    congr 3
    · congr 1; omega
    · congr 2; omega
  rw [e, show 2 * (k + 1) = 2 * k + 2 by omega]; exact hp.1

theorem u8_in (n : Int) (h0 : 0 ≤ n) (h1 : n ≤ 255) : IntKind.u8.wrap n = n := by
  unfold IntKind.wrap; simp [IntKind.bits, IntKind.signed]; omega

theorem u8_mod (x : Int) : IntKind.u8.wrap x = x % 256 := by
  unfold IntKind.wrap; simp [IntKind.bits, IntKind.signed]

theorem src_two {P : Program} {w : World} {g : Nat} {u u' : Value} {e tx e' : TypeId} (hk : P.underlying tx = some (.slice e')) (h : w.heap[g]? = some (.cells #[u, u'] e (0, 0))) (h1 : u.oneCell' = true) (h2 : u'.oneCell' = true) : Src P 1 tx (.slice (some ⟨g, 0, none⟩) 2 2) 2 [u, u'] w :=
  Src.ofSlice w hk _ _ _ _ rfl (fun j x hx => by
    match j, hx with
    | 0, hx => simp at hx; subst hx; simp [Addr.add, World.cell?, h]
    | 1, hx => simp at hx; subst hx; simp [Addr.add, World.cell?, h]) (fun x hx => by simp at hx; rcases hx with rfl | rfl <;> assumption)

set_option maxHeartbeats 2000000 in
theorem of_any {w : World} {G : Nat → Prop} {v : Value} {l : List Int} (h : Reads w G v (cellsOf l)) (hg : Good l) (hl : l.length ≤ 100000) :
    Calls Try.prog 25 #[v] w (KeptPost (.string (ofS l)) w) := by
  obtain ⟨ao, c, rfl, _, hc⟩ := h
  have q1 : (cellsOf l).length = l.length := by simp [cellsOf]
  rw [q1]
  have HC := Lib.hid hc
  have HG := Lib.hid hg
  generalize hn : l.length = n at *
  have HN := Lib.hid hn
  clear hn q1 hc hg
  obtain ⟨i0, hi0, hz0, hz1, hz2⟩ := info_parts Try.info5
  have hi := Lib.hid hi0
  have Z0 := Lib.hid hz0
  have Z1 := Lib.hid hz1
  have Z2 := Lib.hid hz2
  clear hi0 hz0 hz1 hz2
  go_enter Try.func25, Try.ntmps25
  go_wp2_with (at_make; refine wpList_make_own _ rfl _ _ 48 rfl w.heap.size 5 i0 (.int .u8 0) 1 Try.underlying48 hi.out Z0.out Z1.out .i64 .i64 (2 * (n : Int)) (2 * n) rfl rfl (by omega) (by rw [Z2.out]; omega) (by unfold maxLen; omega) (Nat.le_refl _) ?_; intro w1 hown hgr)
  have H0 : Hid (OfPart w w1 l 0 (.slice (some ⟨w.heap.size, 0, none⟩) 0 (2 * n))) := Lib.hid ⟨by simpa [bcells, unatoms] using hown, (Fr.of_grown hgr).mono (fun _ _ h => by cases h)⟩
  clear hown hgr hi Z0 Z1 Z2
  go_loopw [3, 12] (fun v i wr => ∃ k : Nat, k ≤ n ∧ i = .int .i64 k ∧ Hid (OfPart w wr l k v)) (fun _ i _ => n - (intOf i).toNat)
  case atStart => exact ⟨0, by omega, rfl, H0⟩
  case round =>
    obtain ⟨k, hk, rfl, hp⟩ := hrel
    clear H0
    obtain ⟨bo, d, hv, hd⟩ := own_slice hp.out.1
    subst hv
    by_cases hlt : k < n
    · have h1 : (k : Int) < n := by omega
      obtain ⟨x, hx⟩ : ∃ x, l[k]? = some x := ⟨_, List.getElem?_eq_getElem (by have := HN.out; omega)⟩
      obtain ⟨hb0, hb1⟩ := HG.out x (List.mem_of_getElem? hx)
      obtain ⟨g, off, ha, _, hcell0⟩ := HC.out k _ (cells_get hx)
      have hcell := hp.out.2.cell hcell0 (fun x => x)
      subst ha
      have HX := Lib.hid hx
      clear hx hcell0
      have y1 := u8_in (x / 256) (by omega) (by omega)
      have y2 := u8_mod x
      go_wp2_with (at_builtin; refine list_app rfl (.tmp 16) (.tmp 22) 48 48 rfl Try.slice48 rfl (by exact own_kept hp.out.1 (Fr.of_alloc _ _ _)) rfl (by exact src_two Try.underlying48 (heap_alloc_new wr _) rfl rfl) (by unfold maxLen; omega) (by omega) (by have := hp.out.2.size; simp; omega) ?_; intro v1 w2 hp1; have Hp1 := Lib.hid (hp.out.step HG.out HX.out (Fr.of_alloc _ _ _) hp1); clear hp1)
      clear y1 y2
      go_roundw
      case rel => exact ⟨k + 1, by omega, by go_num, Hp1⟩
      case measure => simp [intOf]; omega
    · have hp2 : Hid (OfPart w wr l n (.slice bo (2 * k) d)) := by
        obtain rfl : k = n := by omega
        exact hp
      have hrow := hp2.out.1
      rw [List.take_of_length_le (by have := HN.out; omega)] at hrow
      have hconv : (convert 48 22 (.slice bo (2 * k) d)).run Try.prog wr = .ok (.string (ofS l)) wr := run_to_string hrow
      clear hrow
      go_wp2
      go_ret
      exact ⟨rfl, hp2.out.2⟩

set_option maxHeartbeats 2000000 in
theorem rof_any {w : World} {G : Nat → Prop} {v : Value} {l : List Int} (h : Reads w G v (cellsOf l)) (hg : Good l) (hl : l.length ≤ 100000) :
    Calls Try.prog 26 #[v] w (KeptPost (.string (ofS l)) w) := by
  obtain ⟨ao, c, rfl, _, hc⟩ := h
  have q1 : (cellsOf l).length = l.length := by simp [cellsOf]
  rw [q1]
  have HC := Lib.hid hc
  have HG := Lib.hid hg
  generalize hn : l.length = n at *
  have HN := Lib.hid hn
  clear hn q1 hc hg
  go_enter Try.func26, Try.ntmps26
  go_wp2
  have H0 : Hid (OfPart w (w.alloc (Obj.cells #[] 5)) l 0 (.slice (some ⟨w.heap.size, 0, none⟩) 0 0)) := Lib.hid ⟨own_new (heap_alloc_new w _) (Nat.le_refl _), Fr.of_alloc _ _ _⟩
  go_loopw [3, 4] (fun v i wr => ∃ k : Nat, k ≤ n ∧ i = .int .i64 k ∧ Hid (OfPart w wr l k v)) (fun _ i _ => n - (intOf i).toNat)
  case atStart => exact ⟨0, by omega, rfl, H0⟩
  case round =>
    obtain ⟨k, hk, rfl, hp⟩ := hrel
    clear H0
    obtain ⟨bo, d, hv, hd⟩ := own_slice hp.out.1
    subst hv
    by_cases hlt : k < n
    · have h1 : (k : Int) < n := by omega
      obtain ⟨x, hx⟩ : ∃ x, l[k]? = some x := ⟨_, List.getElem?_eq_getElem (by have := HN.out; omega)⟩
      obtain ⟨hb0, hb1⟩ := HG.out x (List.mem_of_getElem? hx)
      obtain ⟨g, off, ha, _, hcell0⟩ := HC.out k _ (cells_get hx)
      have hcell := hp.out.2.cell hcell0 (fun x => x)
      subst ha
      have HX := Lib.hid hx
      clear hx hcell0
      have y1 := u8_in (x / 256) (by omega) (by omega)
      have y2 := u8_in (x % 256) (by omega) (by omega)
      have y3 : x.tdiv 256 = x / 256 := Int.tdiv_eq_ediv_of_nonneg hb0
      have y4 : x.tmod 256 = x % 256 := Int.tmod_eq_emod_of_nonneg hb0
      have y5 := u16_in (x / 256) (by omega) (by omega)
      go_wp2
      go_region_law (refine step_app rfl (.tmp 12) (.tmp 25) 48 48 rfl Try.slice48 rfl (by exact own_kept hp.out.1 ((Fr.of_alloc _ _ _).trans (Fr.of_drew _ _))) rfl (by exact src_two Try.underlying48 (heap_alloc_new wr _) rfl rfl) (by unfold maxLen; omega) (by omega) (by have := hp.out.2.size; simp; omega) ?_; intro v1 w1 hp1; have Hp1 := Lib.hid (hp.out.step HG.out HX.out ((Fr.of_alloc _ _ _).trans (Fr.of_drew _ _)) hp1); clear hp1 hp)
      all_goals
        clear y1 y2 y3 y4 y5
        go_wp2
        go_roundw
        case rel => exact ⟨k + 1, by omega, by go_num, Hp1⟩
        case measure => simp [intOf]; omega
    · have hp2 : Hid (OfPart w wr l n (.slice bo (2 * k) d)) := by
        obtain rfl : k = n := by omega
        exact hp
      have hrow := hp2.out.1
      rw [List.take_of_length_le (by have := HN.out; omega)] at hrow
      have hconv : (convert 48 22 (.slice bo (2 * k) d)).run Try.prog wr = .ok (.string (ofS l)) wr := run_to_string hrow
      clear hrow
      go_wp2
      go_ret
      exact ⟨rfl, hp2.out.2⟩
end Go.Proofs.Ytbpkfaoaphegnaa
