/- Contracts and lemmas: Laid -/
import Derived.Test.YtdapdpmplbifdaaDoorLa
import Derived.Lib.LaidTab
import Derived.OpenShut
import Derived.Deep.DeepHandedRow
namespace Go.Proofs.YtdapdpmplbifdaaDoor
set_option linter.unusedVariables false
set_option linter.unusedSimpArgs false
open Go.RowKit Go.ChangeShapes Go.WideShapes
/-- an array of strings that reads as a table holds the table's strings, cell for cell -/
theorem strings_of {H : Type} {enc : TypeId × Value → H} {P : Program} {w : World} {base : Nat} {sp : Nat → Bool} {held : Bool} {fuel : Nat} {t e : TypeId} {n : Nat} {cs : List Value} {zs : List (List UInt8)} {p : List MemPlace}
    (ht : P.underlying t = some (.array n e)) (he : P.underlying e = some .string) (hce : P.cellsOf e = 1) (hct : P.cellsOf t = n)
    (h : DataW.trod enc P w base sp held fuel t cs = some (.agg (zs.map fun z => .lit (.string z)), p)) : cs = zs.map fun z => Value.string (strOf z) := by
  obtain ⟨xs, m, rfl, hx, hlen, hn, hel⟩ := DataW.trod_array ht h
  simp only [Prod.mk.injEq, DataW.agg.injEq] at hx
  have hxs := hx.1
  have hzl : zs.length = n := by
    have := congrArg List.length hxs
    simp at this
    omega
  apply List.ext_getElem?
  intro i
  by_cases hi : i < n
  · have h1 := hel i hi
    obtain ⟨x, hxi⟩ : ∃ x, xs[i]? = some x := ⟨_, List.getElem?_eq_getElem (by omega)⟩
    rw [hxi, hce] at h1
    obtain ⟨s, hc, rfl, _⟩ := DataW.trod_string he h1
    have h3 : cs[i]? = some (.string s) := by
      have := congrArg (·[0]?) hc
      simpa [List.getElem?_take, List.getElem?_drop] using this
    have h4 : (xs.map (·.1))[i]? = some (DataW.lit (.string s.data.toList) : DataW H) := by simp [hxi]
    rw [← hxs] at h4
    simp only [List.getElem?_map, Option.map_eq_some_iff, DataW.lit.injEq, Lit.string.injEq] at h4
    obtain ⟨z, hz, hzs⟩ := h4
    rw [h3]
    simp only [List.getElem?_map, hz, Option.map_some]
    have : s = strOf z := bs_inj (by rw [bs_strOf, hzs]; rfl)
    rw [this]
  · rw [List.getElem?_eq_none (by omega), List.getElem?_eq_none (by simp; omega)]
theorem gPre : Tryd.prog.globalNamed "attorney/token.prefixes" = some 0 := by kernel_rfl
theorem gFix : Tryd.prog.globalNamed "attorney/token.fixed" = some 1 := by kernel_rfl
theorem gPreT : (Tryd.prog.globals[0]?).map (·.type) = some 90 := by kernel_rfl
theorem gFixT : (Tryd.prog.globals[1]?).map (·.type) = some 92 := by kernel_rfl
theorem cellsS : Tryd.prog.cellsOf 9 = 1 := by kernel_rfl
theorem cellsPre : Tryd.prog.cellsOf 90 = 6 := by kernel_rfl
theorem cellsFix : Tryd.prog.cellsOf 92 = 8 := by kernel_rfl
/-- what the rows' list gives: the two tables lie there -/
theorem laid_of {W : World} (h : laidMet Tryd.prog [("attorney/token.prefixes", Rows.laid_attorney_token_prefixes), ("attorney/token.fixed", Rows.laid_attorney_token_fixed)] W) : LaidT W := by
  obtain ⟨ps, ⟨g0, t0, cs0, f0, p0, q0, hg0, ht0, hv0, hd0, ⟨g1, t1, cs1, f1, p1, q1, hg1, ht1, hv1, hd1, _, _⟩, _⟩, _⟩ := h
  obtain rfl := Option.some.inj (gPre.symm.trans hg0)
  obtain rfl := Option.some.inj (gFix.symm.trans hg1)
  obtain rfl := Option.some.inj (gPreT.symm.trans ht0)
  obtain rfl := Option.some.inj (gFixT.symm.trans ht1)
  have h0 := strings_of (zs := [[], [107, 101, 121, 58], [99, 104, 97, 110, 58], [], [103, 114, 111, 117, 112, 58], [114, 111, 108, 101, 58]]) Tryd.underlying90 Tryd.underlying9 cellsS cellsPre hd0
  have h1 := strings_of (zs := [[], [], [97, 110, 100], [102, 111, 114], [124], [97, 115], [40], [41]]) Tryd.underlying92 Tryd.underlying9 cellsS cellsFix hd1
  refine ⟨fun k hk => ?_, fun k hk => ?_⟩
  · have h2 := World.var?_cell hg0 hv0 k
    rw [h2]
    have hc : k = 0 ∨ k = 1 ∨ k = 2 ∨ k = 3 ∨ k = 4 ∨ k = 5 := by omega
    have h3 : cs0[k]? = cs0.toList[k]? := by simp
    rw [h3, h0]
    rcases hc with rfl | rfl | rfl | rfl | rfl | rfl <;> rfl
  · have h2 := World.var?_cell hg1 hv1 k
    rw [h2]
    have hc : k = 0 ∨ k = 1 ∨ k = 2 ∨ k = 3 ∨ k = 4 ∨ k = 5 ∨ k = 6 ∨ k = 7 := by omega
    have h3 : cs1[k]? = cs1.toList[k]? := by simp
    rw [h3, h1]
    rcases hc with rfl | rfl | rfl | rfl | rfl | rfl | rfl | rfl <;> rfl
open Go.RowKit Go.ChangeShapes Go.WideShapes
def putPre : Obj → Obj
  | .cells _ t fr => .cells #[.string ⟨#[]⟩, .string ⟨#[107, 101, 121, 58]⟩, .string ⟨#[99, 104, 97, 110, 58]⟩, .string ⟨#[]⟩, .string ⟨#[103, 114, 111, 117, 112, 58]⟩, .string ⟨#[114, 111, 108, 101, 58]⟩] t fr
  | o => o
def putFix : Obj → Obj
  | .cells _ t fr => .cells #[.string ⟨#[]⟩, .string ⟨#[]⟩, .string ⟨#[97, 110, 100]⟩, .string ⟨#[102, 111, 114]⟩, .string ⟨#[124]⟩, .string ⟨#[97, 115]⟩, .string ⟨#[40]⟩, .string ⟨#[41]⟩] t fr
  | o => o
/-- a world for the witness: the settled one, the two tables holding what their initialisers lay -/
noncomputable def laidWorld (os : Os) : World :=
  { World.holding Tryd.prog os ⟨#[], #[], []⟩ with heap := ((World.holding Tryd.prog os ⟨#[], #[], []⟩).heap.modify 0 putPre).modify 1 putFix }

end Go.Proofs.YtdapdpmplbifdaaDoor
