/- Contracts and lemmas: WParses -/
import Derived.Test.YtdapdpmplbifdaaDoorAw
namespace Go.Proofs.YtdapdpmplbifdaaDoor
set_option linter.unusedVariables false
set_option linter.unusedSimpArgs false
open Go.RowKit Go.ChangeShapes Go.WideShapes
theorem ReadIs.small {l x : List Tok} {n : Nat} {q : Int} (h : ReadIs l x n q) : x.length ≤ 200 := by
  by_cases hq : q = 0
  · subst hq
    obtain ⟨t, _, _, _, rfl, h5, _⟩ := h.zero
    exact h5
  · have := (h.other hq).1
    subst this
    simp
theorem ParseIs.small {s : List UInt8} {x : List Tok} {n : Nat} {q : Int} (h : ParseIs s x n q) : x.length ≤ 200 := by
  rcases h with ⟨_, rfl⟩ | ⟨m, p, _, h2, _⟩
  · simp
  · exact h2.small
theorem samex_self (l : List TrmB) : sameX l l = true := by unfold sameX; simp
theorem ksamex_self {w : World} {v v' : Value} {x : List Tok} (h : ReadsX w v (toX x)) (h' : ReadsX w v' (toX x)) (hx : x.length ≤ 1000000) :
    Calls Tryd.prog 13 #[v, v'] w (KeptPost (.bool true) w) := by
  have := ksamex_any h h' (by rw [toX_len]; omega) (by rw [toX_len]; omega)
  rwa [samex_self] at this
set_option maxRecDepth 20000 in
set_option maxHeartbeats 2000000 in
theorem exprParses_walk {w : World} (s : ByteArray) (hs : s.size ≤ maxLen) (hL : LaidT w) :
    Calls Tryd.prog 3 #[.string s] w fun e w' => e = .returned (.bool true) ∧ Kept w w' := by
  have HL := Lib.hid hL
  clear hL
  by_cases h8 : 4096 < s.size
  · have h8i : (4096 : Int) < s.size := by omega
    go_enter Tryd.func3, Tryd.ntmps3
    go_wp2_with fail
    refine (kawakex_any _ HL.out).mono ?_
    rintro e w1 ⟨rfl, hk1⟩
    have HK1 := Lib.hid hk1
    clear hk1
    go_wp2
    go_ret
    exact ⟨rfl, HK1.out⟩
  · have h8i : ¬ (4096 : Int) < s.size := by omega
    go_enter Tryd.func3, Tryd.ntmps3
    go_wp2_with fail
    refine (kawakex_any _ HL.out).mono ?_
    rintro e w1 ⟨rfl, hk1⟩
    have HK1 := Lib.hid hk1
    clear hk1
    go_wp2_with fail
    refine (kparse_any s _ (by omega) (HL.out.kept HK1.out)).mono ?_
    rintro e w2 ⟨v, x, n, q, rfl, hi, hr, hk2⟩
    have HR := Lib.hid hr
    have HI := Lib.hid hi
    have HK2 := Lib.hid (HK1.out.trans hk2)
    clear hr hi hk2 HK1
    go_wp2_with fail
    refine (rparse_any s _ (by omega)).mono ?_
    rintro e w3 ⟨v', x', n', q', rfl, hi, hx⟩
    obtain ⟨rfl, rfl, rfl⟩ := HI.out.unique hi
    have HR2 := Lib.hid (HR.out.kept hx.2)
    have HR3 := Lib.hid hx.reads
    have HK3 := Lib.hid (HK2.out.trans hx.2)
    have HN := Lib.hid hi.small
    clear hx hi HK2 HR HI
    go_wp2_with fail
    refine (ksamex_self HR2.out HR3.out (by have := HN.out; omega)).mono ?_
    rintro e w4 ⟨rfl, hk4⟩
    have HK4 := Lib.hid (HK3.out.trans hk4)
    clear hk4
    go_wp2
    go_ret
    exact ⟨rfl, HK4.out⟩

end Go.Proofs.YtdapdpmplbifdaaDoor
