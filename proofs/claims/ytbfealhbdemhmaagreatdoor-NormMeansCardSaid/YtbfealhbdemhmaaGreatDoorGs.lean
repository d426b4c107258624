/- Contracts and lemmas: Gs -/
import Derived.Test.YtbfealhbdemhmaaGreatDoorEm
import Derived.Test.YtbfealhbdemhmaaGreatDoorS2
import Derived.Lib.LaidTab
import Derived.OpenShut
import Derived.Deep.DeepHandedRow
import Derived.Deep.Slices
namespace Go.Proofs.YtbfealhbdemhmaaGreatDoor
set_option linter.unusedVariables false
set_option linter.unusedSimpArgs false
open Go.RowKit Go.ChangeShapes Go.WideShapes
/-- an array of strings that reads as a table holds the table's strings, cell for cell -/
theorem strings_of {H : Type} {enc : TypeId × Value → H} {P : Program} {w : World} {base : Nat} {sp : Nat → Bool} {held : Bool} {fuel : Nat} {t e : TypeId} {n : Nat} {cs : List Value} {zs : List (List UInt8)} {p : List MemPlace}
    (ht : P.underlying t = some (.array n e)) (he : P.underlying e = some .string) (hce : P.cellsOf e = 1) (hct : P.cellsOf t = n)
    (h : DataW.trod enc P w base sp held fuel t cs = some (.agg (zs.map fun z => .lit (.string z)), p)) : cs = zs.map fun z => Value.string (strOf z) := by
  obtain ⟨xs, m, rfl, hx, hlen, hn, hel⟩ := DataW.trod_array ht h
  simp only [Prod.mk.injEq, DataW.agg.injEq] at hx
  have hxs := hx.1
  have hzl : zs.length = n := by
    have := congrArg List.length hxs
    simp at this
    omega
  apply List.ext_getElem?
  intro i
  by_cases hi : i < n
  · have h1 := hel i hi
    obtain ⟨x, hxi⟩ : ∃ x, xs[i]? = some x := ⟨_, List.getElem?_eq_getElem (by omega)⟩
    rw [hxi, hce] at h1
    obtain ⟨s, hc, rfl, _⟩ := DataW.trod_string he h1
    have h3 : cs[i]? = some (.string s) := by
      have := congrArg (·[0]?) hc
      simpa [List.getElem?_take, List.getElem?_drop] using this
    have h4 : (xs.map (·.1))[i]? = some (DataW.lit (.string s.data.toList) : DataW H) := by simp [hxi]
    rw [← hxs] at h4
    simp only [List.getElem?_map, Option.map_eq_some_iff, DataW.lit.injEq, Lit.string.injEq] at h4
    obtain ⟨z, hz, hzs⟩ := h4
    rw [h3]
    simp only [List.getElem?_map, hz, Option.map_some]
    have : s = strOf z := bs_inj (by rw [bs_strOf, hzs]; rfl)
    rw [this]
  · rw [List.getElem?_eq_none (by omega), List.getElem?_eq_none (by simp; omega)]
theorem gPre : Tryz.prog.globalNamed "attorney/token.prefixes" = some 0 := by kernel_rfl
theorem gFix : Tryz.prog.globalNamed "attorney/token.fixed" = some 1 := by kernel_rfl
theorem gPreT : (Tryz.prog.globals[0]?).map (·.type) = some 152 := by kernel_rfl
theorem gFixT : (Tryz.prog.globals[1]?).map (·.type) = some 155 := by kernel_rfl
theorem cellsS : Tryz.prog.cellsOf 9 = 1 := by kernel_rfl
theorem cellsPre : Tryz.prog.cellsOf 152 = 6 := by kernel_rfl
theorem cellsFix : Tryz.prog.cellsOf 155 = 8 := by kernel_rfl
/-- what the rows' list gives: the two tables lie there -/
theorem laid_of {W : World} (h : laidMet Tryz.prog [("attorney/token.prefixes", Rows.laid_attorney_token_prefixes), ("attorney/token.fixed", Rows.laid_attorney_token_fixed)] W) : LaidT W := by
  obtain ⟨ps, ⟨g0, t0, cs0, f0, p0, q0, hg0, ht0, hv0, hd0, ⟨g1, t1, cs1, f1, p1, q1, hg1, ht1, hv1, hd1, _, _⟩, _⟩, _⟩ := h
  obtain rfl := Option.some.inj (gPre.symm.trans hg0)
  obtain rfl := Option.some.inj (gFix.symm.trans hg1)
  obtain rfl := Option.some.inj (gPreT.symm.trans ht0)
  obtain rfl := Option.some.inj (gFixT.symm.trans ht1)
  have h0 := strings_of (zs := [[], [107, 101, 121, 58], [99, 104, 97, 110, 58], [], [103, 114, 111, 117, 112, 58], [114, 111, 108, 101, 58]]) Tryz.underlying152 Tryz.underlying9 cellsS cellsPre hd0
  have h1 := strings_of (zs := [[], [], [97, 110, 100], [102, 111, 114], [124], [97, 115], [40], [41]]) Tryz.underlying155 Tryz.underlying9 cellsS cellsFix hd1
  refine ⟨fun k hk => ?_, fun k hk => ?_⟩
  · have h2 := World.var?_cell hg0 hv0 k
    rw [h2]
    have hc : k = 0 ∨ k = 1 ∨ k = 2 ∨ k = 3 ∨ k = 4 ∨ k = 5 := by omega
    have h3 : cs0[k]? = cs0.toList[k]? := by simp
    rw [h3, h0]
    rcases hc with rfl | rfl | rfl | rfl | rfl | rfl <;> rfl
  · have h2 := World.var?_cell hg1 hv1 k
    rw [h2]
    have hc : k = 0 ∨ k = 1 ∨ k = 2 ∨ k = 3 ∨ k = 4 ∨ k = 5 ∨ k = 6 ∨ k = 7 := by omega
    have h3 : cs1[k]? = cs1.toList[k]? := by simp
    rw [h3, h1]
    rcases hc with rfl | rfl | rfl | rfl | rfl | rfl | rfl | rfl <;> rfl
open Go.RowKit Go.ChangeShapes Go.WideShapes
def putPre : Obj → Obj
  | .cells _ t fr => .cells #[.string ⟨#[]⟩, .string ⟨#[107, 101, 121, 58]⟩, .string ⟨#[99, 104, 97, 110, 58]⟩, .string ⟨#[]⟩, .string ⟨#[103, 114, 111, 117, 112, 58]⟩, .string ⟨#[114, 111, 108, 101, 58]⟩] t fr
  | o => o
def putFix : Obj → Obj
  | .cells _ t fr => .cells #[.string ⟨#[]⟩, .string ⟨#[]⟩, .string ⟨#[97, 110, 100]⟩, .string ⟨#[102, 111, 114]⟩, .string ⟨#[124]⟩, .string ⟨#[97, 115]⟩, .string ⟨#[40]⟩, .string ⟨#[41]⟩] t fr
  | o => o
/-- a world for the witness: the settled one, the two tables holding what their initialisers lay -/
noncomputable def laidWorld (os : Os) : World :=
  { World.holding Tryz.prog os ⟨#[], #[], []⟩ with heap := ((World.holding Tryz.prog os ⟨#[], #[], []⟩).heap.modify 0 putPre).modify 1 putFix }

open Go.RowKit Go.ChangeShapes Go.WideShapes
set_option maxRecDepth 20000
theorem holds_struct {P : Program} {w : World} {t : TypeId} {cs : List Value} {fs : Array Field} (h : Holds P w t cs) (ht : P.underlying t = some (.struct fs)) :
    cs.length = P.cellsOf t ∧ ∀ (i : Nat) (f : Field), fs[i]? = some f → Holds P w f.type ((cs.drop f.offset).take (P.cellsOf f.type)) := by
  obtain ⟨H, enc, base, spare, held, fuel, x, hf⟩ := h
  obtain ⟨xs, n, _, _, hl, hlen, hx⟩ := DataW.trod_struct ht hf
  refine ⟨hl, fun i f hi => ?_⟩
  have h1 := hx i f hi
  have hi' : i < xs.length := by rw [hlen]; exact (Array.getElem?_eq_some_iff.1 hi).1
  rw [List.getElem?_eq_getElem hi'] at h1
  exact ⟨H, enc, base, spare, held, n, _, h1⟩

open Go.RowKit Go.ChangeShapes Go.WideShapes
set_option maxRecDepth 20000
/-- a slice of terms that came in -/
def TrmList (w : World) (v : Value) : Prop := ∃ l : List TrmB, ReadsX w v l ∧ l.length ≤ maxLen ∧ ∀ t ∈ l, t.name.size ≤ maxLen
theorem trms_of {w : World} {v : Value} {r : Reach} {b : Nat} (hval : Value.okWide Tryz.prog w r b 25 v) (h : Holds Tryz.prog w 25 v.cells.toList) : TrmList w v := by
  obtain ⟨ao, len, cap, rfl⟩ := okWide_slice Tryz.underlying25 hval
  rcases h.slice Tryz.underlying25 with h0 | ⟨a, len', cap', h1, hl, hm, hx⟩
  · simp [Value.cells] at h0
    obtain ⟨rfl, rfl, rfl⟩ := h0
    exact ⟨[], readsX_nil _, by decide, fun t ht => by cases ht⟩
  · simp [Value.cells] at h1
    obtain ⟨rfl, rfl, rfl⟩ := h1
    have hC : Tryz.prog.cellsOf 52 = 3 := by kernel_rfl
    have h3 : Tryz.prog.cellsOf 3 = 1 := by kernel_rfl
    have h9 : Tryz.prog.cellsOf 9 = 1 := by kernel_rfl
    have key : ∀ i, i < len → ∃ x : TrmB, x.name.size ≤ maxLen ∧
      ∃ g off, some a = some ⟨g, off, none⟩ ∧
    w.cell? ⟨g, off + i * 3, none⟩ = some (.int .i64 x.op) ∧ w.cell? ⟨g, off + i * 3 + 1, none⟩ = some (.int .i64 x.of) ∧ w.cell? ⟨g, off + i * 3 + 2, none⟩ = some (.string x.name) := by
      intro i hi
      have ha : a = ⟨a.block, a.off, none⟩ := by
        obtain ⟨cs0, hl0, hc0, _⟩ := hx 0 (by omega)
        rw [hC] at hl0 hc0
        have h00 := hc0 0 (by omega)
        rw [List.getElem?_eq_getElem (by omega)] at h00
        have := spot_of_cell h00
        simp [Addr.add] at this
        cases a; simp_all
      obtain ⟨cs', hlen, hcell, hh⟩ := hx i hi
      rw [hC] at hlen hcell
      match cs', hlen with
      | [c0, c1, c2], _ =>
        obtain ⟨_, hf⟩ := holds_struct hh Tryz.underlying52
        have f0 := hf 0 _ rfl
        have f1 := hf 1 _ rfl
        have f2 := hf 2 _ rfl
        simp [h3, h9] at f0 f1 f2
        obtain ⟨n, e0, _⟩ := f0.int Tryz.underlying3
        obtain ⟨o, e1, _⟩ := f1.int Tryz.underlying3
        obtain ⟨s, e2, ws⟩ := f2.string Tryz.underlying9
        simp at e0 e1 e2
        subst e0 e1 e2
        exact ⟨⟨n, o, s⟩, ws, a.block, a.off, ha ▸ rfl, cell_form (hcell 0 (by omega)), cell_form (hcell 1 (by omega)), cell_form (hcell 2 (by omega))⟩
    have : Inhabited TrmB := ⟨⟨0, 0, ByteArray.empty⟩⟩
    obtain ⟨f, hf⟩ := Deep.choose_lt key
    refine ⟨(List.range len).map f, ⟨some a, cap, by simp, by simpa using hl, fun i x hi => ?_⟩, by simp; omega, fun t ht => ?_⟩
    · obtain ⟨hi', rfl⟩ := List.getElem?_eq_some_iff.1 hi
      simp at hi'
      have := hf i hi'
      simp only [List.getElem_map, List.getElem_range]
      exact this.2
    · obtain ⟨i, hi, rfl⟩ := List.mem_map.1 ht
      exact (hf i (by simpa using hi)).1

/-- the value holds a set's words -/
def SetAt (w : World) (v : Value) : Prop := ∃ l, Reads w (fun _ => True) v (wcells l) ∧ Small maxLen l ∧ l.length ≤ maxLen
theorem sets_of {w : World} {v : Value} {r : Reach} {b : Nat} (hval : Value.okWide Tryz.prog w r b 33 v) (h : Holds Tryz.prog w 33 v.cells.toList) : SetAt w v := by
  obtain ⟨ao, len, cap, rfl⟩ := okWide_slice Tryz.underlying33 hval
  have hC : Tryz.prog.cellsOf 43 = 1 := by kernel_rfl
  have : Inhabited ByteArray := ⟨ByteArray.empty⟩
  obtain ⟨l, h1, h2, h3⟩ := Holds.row (mk := Value.string) (R := fun x => x.size ≤ maxLen) (c := .slice ao len cap) h Tryz.underlying33 hC (fun cs hcs => by
    obtain ⟨x, hx, hw⟩ := hcs.string Tryz.underlying43
    exact ⟨x, hx, hw⟩)
  exact ⟨l, h1, h2, h3⟩

end Go.Proofs.YtbfealhbdemhmaaGreatDoor
