/- Contracts and lemmas: Reads -/
import Derived.Test.YthceckpeccbpiaaDoorArgs
namespace Go.Proofs.YthceckpeccbpiaaDoor
set_option linter.unusedVariables false
set_option linter.unusedSimpArgs false
open Go.RowKit Go.ChangeShapes Go.WideShapes
set_option maxHeartbeats 2000000 in
theorem tokenReads_walk {w : World} (s : ByteArray) (hs : s.size ≤ maxLen) (hL : LaidT w) :
    Calls Tryd.prog 3 #[.string s] w fun e w' => e = .returned (.bool true) ∧ Kept w w' := by
  have HL := Lib.hid hL
  clear hL
  by_cases h8 : 8192 < s.size
  · have h8i : (8192 : Int) < s.size := by omega
    go_enter Tryd.func3, Tryd.ntmps3
    go_wp2_with fail
    refine (kawake_any _ HL.out).mono ?_
    rintro e w1 ⟨rfl, hk1⟩
    have HK1 := Lib.hid hk1
    clear hk1
    go_wp2
    go_ret
    exact ⟨rfl, HK1.out⟩
  · have h8i : ¬ (8192 : Int) < s.size := by omega
    go_enter Tryd.func3, Tryd.ntmps3
    go_wp2_with fail
    refine (kawake_any _ HL.out).mono ?_
    rintro e w1 ⟨rfl, hk1⟩
    have HK1 := Lib.hid hk1
    clear hk1
    go_wp2_with fail
    refine (kallR s _ (by omega) (HL.out.kept HK1.out)).mono ?_
    rintro e w2 ⟨v, m, p, q, rfl, hr, hk2, hi⟩
    have HR := Lib.hid hr
    have HI := Lib.hid hi
    have HK2 := Lib.hid (HK1.out.trans hk2)
    clear hr hi hk2 HK1
    go_wp2_with fail
    refine (rallR s _ (by omega)).mono ?_
    rintro e w3 ⟨v', m', p', q', rfl, hr, hk3, hi⟩
    obtain ⟨rfl, rfl, rfl⟩ := HI.out.unique hi
    have HR2 := Lib.hid (HR.out.kept hk3)
    have HR3 := Lib.hid hr
    have HK3 := Lib.hid (HK2.out.trans hk3)
    have hml : Hid ((toB m).length ≤ 1000) := Lib.hid (by have := HI.out.toks.1; unfold toB; simpa using this)
    clear hr hk3 hi HK2 HR
    have HS : Hid (∀ W, ReadsT W v (toB m) → ReadsT W v' (toB m) → Calls Tryd.prog 12 #[v, v', .bool true] W (KeptPost (.bool true) W)) := Lib.hid (fun W h1 h2 => by
      have h := ksame_any h1 h2 true (by have := hml.out; omega) (by have := hml.out; omega)
      rwa [show sameS true (toB m) (toB m) = true by unfold sameS; simp] at h)
    go_wp2_with fail
    refine (HS.out _ HR2.out HR3.out).mono ?_
    rintro e w4 ⟨rfl, hk4⟩
    have HK4 := Lib.hid (HK3.out.trans hk4)
    clear hk4
    go_wp2
    go_ret
    exact ⟨rfl, HK4.out⟩

end Go.Proofs.YthceckpeccbpiaaDoor
