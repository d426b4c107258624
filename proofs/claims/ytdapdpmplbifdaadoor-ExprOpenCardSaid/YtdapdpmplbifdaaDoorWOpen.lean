/- Contracts and lemmas: WOpen -/
import Derived.Test.YtdapdpmplbifdaaDoorWParses
namespace Go.Proofs.YtdapdpmplbifdaaDoor
set_option linter.unusedVariables false
set_option linter.unusedSimpArgs false
open Go.RowKit Go.ChangeShapes Go.WideShapes
set_option maxRecDepth 20000 in
set_option maxHeartbeats 8000000 in
theorem exprOpen_walk {w : World} (s : ByteArray) (hs : s.size ≤ maxLen) (hL : LaidT w) :
    Calls Tryd.prog 9 #[.string s] w fun e w' => e = .returned (.bool true) ∧ Kept w w' := by
  have HL := Lib.hid hL
  clear hL
  by_cases h8 : 3000 < s.size
  · have h8i : (3000 : Int) < s.size := by omega
    go_enter Tryd.func9, Tryd.ntmps9
    go_wp2_with fail
    refine (kawakex_any _ HL.out).mono ?_
    rintro e w1 ⟨rfl, hk1⟩
    have HK1 := Lib.hid hk1
    clear hk1
    go_wp2
    go_ret
    exact ⟨rfl, HK1.out⟩
  · have h8i : ¬ (3000 : Int) < s.size := by omega
    go_enter Tryd.func9, Tryd.ntmps9
    go_wp2_with fail
    refine (kawakex_any _ HL.out).mono ?_
    rintro e w1 ⟨rfl, hk1⟩
    have HK1 := Lib.hid hk1
    clear hk1
    go_wp2_with fail
    refine (kparse_any s _ (by omega) (HL.out.kept HK1.out)).mono ?_
    rintro e w2 ⟨v, x, n, q, rfl, hi, hr, hk2⟩
    have HK2 := Lib.hid (HK1.out.trans hk2)
    have HR2 := Lib.hid hr
    clear hr hk2 HK1
    by_cases hq : q = 0
    · subst hq
      obtain ⟨YA, hYA⟩ : ∃ y, y = (⟨#[40]⟩ : ByteArray) ++ s := ⟨_, rfl⟩
      obtain ⟨YB, hYB⟩ : ∃ y, y = YA ++ (⟨#[10, 41]⟩ : ByteArray) := ⟨_, rfl⟩
      obtain ⟨YC, hYC⟩ : ∃ y, y = s ++ (⟨#[10, 41]⟩ : ByteArray) := ⟨_, rfl⟩
      have z1 : (⟨#[40]⟩ : ByteArray).size = 1 := rfl
      have z2 : (⟨#[10, 41]⟩ : ByteArray).size = 2 := rfl
      have hza : YA.size = 1 + s.size := by rw [hYA, ByteArray.size_append]; omega
      have hzb : YB.size = 3 + s.size := by rw [hYB, ByteArray.size_append]; omega
      have hzc : YC.size = 2 + s.size := by rw [hYC, ByteArray.size_append]; omega
      have s1 : ∀ W, (Op.stringOp .add ⟨#[40]⟩ s).run Tryd.prog W = .ok (.string YA) W := fun W => by rw [hYA]; exact run_string_add_sum _ _ _ (by omega)
      have s2 : ∀ W, (Op.stringOp .add YA ⟨#[10, 41]⟩).run Tryd.prog W = .ok (.string YB) W := fun W => by rw [hYB]; exact run_string_add_sum _ _ _ (by omega)
      have s3 : ∀ W, (Op.stringOp .add s ⟨#[10, 41]⟩).run Tryd.prog W = .ok (.string YC) W := fun W => by rw [hYC]; exact run_string_add_sum _ _ _ (by omega)
      have ba : bs YA = 40 :: bs s := by rw [hYA]; simp [bs]
      have bc : bs YC = bs s ++ [10, 41] := by rw [hYC]; simp [bs]
      have bb : bs YB = 40 :: (bs s ++ [10, 41]) := by rw [hYB, hYA]; simp [bs]
      have hl3 : (bs s).length ≤ 3000 := by rw [bs_len]; omega
      have HN := Lib.hid hi.small
      have o1 := open_around hi hl3
      have o2 := open_close hi hl3
      have o3 := open_open hi hl3
      rw [← bb] at o1
      rw [← bc, bs_len] at o2
      rw [← ba, bs_len] at o3
      clear hYA hYB hYC z1 z2 ba bb bc hl3 hi h8
      rcases o1 with o1 | ⟨k1, o1⟩
      · rcases o2 with o2 | ⟨k2, o2⟩
        · rcases o3 with o3 | ⟨k3, o3⟩
          · have P1 := Lib.hid o1
            have P2 := Lib.hid o2
            have P3 := Lib.hid o3
            clear o1 o2 o3
            go_wp2_with fail
            refine (kparse_any YB _ (by omega) (HL.out.kept HK2.out)).mono ?_
            rintro e w3 ⟨v3, x3, n3, q3, rfl, hi, hr, hk⟩
            obtain ⟨rfl, rfl, rfl⟩ := P1.out.unique hi
            have HK3 := Lib.hid (HK2.out.trans hk)
            have HR3 := Lib.hid (HR2.out.kept hk)
            have HQ3 := Lib.hid hr
            clear hi hr hk
            go_wp2_with fail
            refine (kparse_any YC _ (by omega) (HL.out.kept HK3.out)).mono ?_
            rintro e w4 ⟨v4, x4, n4, q4, rfl, hi, hr, hk⟩
            obtain ⟨rfl, rfl, rfl⟩ := P2.out.unique hi
            have HK4 := Lib.hid (HK3.out.trans hk)
            have HR4 := Lib.hid (HR3.out.kept hk)
            have HQ4 := Lib.hid (HQ3.out.kept hk)
            clear hi hr hk
            go_wp2_with fail
            refine (kparse_any YA _ (by omega) (HL.out.kept HK4.out)).mono ?_
            rintro e w5 ⟨v5, x5, n5, q5, rfl, hi, hr, hk⟩
            obtain ⟨rfl, rfl, rfl⟩ := P3.out.unique hi
            have HK5 := Lib.hid (HK4.out.trans hk)
            have HR5 := Lib.hid (HR4.out.kept hk)
            have HQ5 := Lib.hid (HQ4.out.kept hk)
            clear hi hr hk
            go_wp2_with fail
            refine (ksamex_self HR5.out HQ5.out (by have := HN.out; omega)).mono ?_
            rintro e w6 ⟨rfl, hk⟩
            have HK6 := Lib.hid (HK5.out.trans hk)
            clear hk
            go_wp2
            go_ret
            exact ⟨rfl, HK6.out⟩
          · have P1 := Lib.hid o1
            have P2 := Lib.hid o2
            have P3 := Lib.hid o3
            clear o1 o2 o3
            go_wp2_with fail
            refine (kparse_any YB _ (by omega) (HL.out.kept HK2.out)).mono ?_
            rintro e w3 ⟨v3, x3, n3, q3, rfl, hi, hr, hk⟩
            obtain ⟨rfl, rfl, rfl⟩ := P1.out.unique hi
            have HK3 := Lib.hid (HK2.out.trans hk)
            have HR3 := Lib.hid (HR2.out.kept hk)
            have HQ3 := Lib.hid hr
            clear hi hr hk
            go_wp2_with fail
            refine (kparse_any YC _ (by omega) (HL.out.kept HK3.out)).mono ?_
            rintro e w4 ⟨v4, x4, n4, q4, rfl, hi, hr, hk⟩
            obtain ⟨rfl, rfl, rfl⟩ := P2.out.unique hi
            have HK4 := Lib.hid (HK3.out.trans hk)
            have HR4 := Lib.hid (HR3.out.kept hk)
            have HQ4 := Lib.hid (HQ3.out.kept hk)
            clear hi hr hk
            go_wp2_with fail
            refine (kparse_any YA _ (by omega) (HL.out.kept HK4.out)).mono ?_
            rintro e w5 ⟨v5, x5, n5, q5, rfl, hi, hr, hk⟩
            obtain ⟨rfl, rfl, rfl⟩ := P3.out.unique hi
            have HK5 := Lib.hid (HK4.out.trans hk)
            have HR5 := Lib.hid (HR4.out.kept hk)
            have HQ5 := Lib.hid (HQ4.out.kept hk)
            clear hi hr hk
            go_wp2
            go_ret
            exact ⟨rfl, HK5.out⟩
        · rcases o3 with o3 | ⟨k3, o3⟩
          · have P1 := Lib.hid o1
            have P2 := Lib.hid o2
            have P3 := Lib.hid o3
            clear o1 o2 o3
            go_wp2_with fail
            refine (kparse_any YB _ (by omega) (HL.out.kept HK2.out)).mono ?_
            rintro e w3 ⟨v3, x3, n3, q3, rfl, hi, hr, hk⟩
            obtain ⟨rfl, rfl, rfl⟩ := P1.out.unique hi
            have HK3 := Lib.hid (HK2.out.trans hk)
            have HR3 := Lib.hid (HR2.out.kept hk)
            have HQ3 := Lib.hid hr
            clear hi hr hk
            go_wp2_with fail
            refine (kparse_any YC _ (by omega) (HL.out.kept HK3.out)).mono ?_
            rintro e w4 ⟨v4, x4, n4, q4, rfl, hi, hr, hk⟩
            obtain ⟨rfl, rfl, rfl⟩ := P2.out.unique hi
            have HK4 := Lib.hid (HK3.out.trans hk)
            have HR4 := Lib.hid (HR3.out.kept hk)
            have HQ4 := Lib.hid (HQ3.out.kept hk)
            clear hi hr hk
            go_wp2_with fail
            refine (kparse_any YA _ (by omega) (HL.out.kept HK4.out)).mono ?_
            rintro e w5 ⟨v5, x5, n5, q5, rfl, hi, hr, hk⟩
            obtain ⟨rfl, rfl, rfl⟩ := P3.out.unique hi
            have HK5 := Lib.hid (HK4.out.trans hk)
            have HR5 := Lib.hid (HR4.out.kept hk)
            have HQ5 := Lib.hid (HQ4.out.kept hk)
            clear hi hr hk
            go_wp2
            go_ret
            exact ⟨rfl, HK5.out⟩
          · have P1 := Lib.hid o1
            have P2 := Lib.hid o2
            have P3 := Lib.hid o3
            clear o1 o2 o3
            go_wp2_with fail
            refine (kparse_any YB _ (by omega) (HL.out.kept HK2.out)).mono ?_
            rintro e w3 ⟨v3, x3, n3, q3, rfl, hi, hr, hk⟩
            obtain ⟨rfl, rfl, rfl⟩ := P1.out.unique hi
            have HK3 := Lib.hid (HK2.out.trans hk)
            have HR3 := Lib.hid (HR2.out.kept hk)
            have HQ3 := Lib.hid hr
            clear hi hr hk
            go_wp2_with fail
            refine (kparse_any YC _ (by omega) (HL.out.kept HK3.out)).mono ?_
            rintro e w4 ⟨v4, x4, n4, q4, rfl, hi, hr, hk⟩
            obtain ⟨rfl, rfl, rfl⟩ := P2.out.unique hi
            have HK4 := Lib.hid (HK3.out.trans hk)
            have HR4 := Lib.hid (HR3.out.kept hk)
            have HQ4 := Lib.hid (HQ3.out.kept hk)
            clear hi hr hk
            go_wp2_with fail
            refine (kparse_any YA _ (by omega) (HL.out.kept HK4.out)).mono ?_
            rintro e w5 ⟨v5, x5, n5, q5, rfl, hi, hr, hk⟩
            obtain ⟨rfl, rfl, rfl⟩ := P3.out.unique hi
            have HK5 := Lib.hid (HK4.out.trans hk)
            have HR5 := Lib.hid (HR4.out.kept hk)
            have HQ5 := Lib.hid (HQ4.out.kept hk)
            clear hi hr hk
            go_wp2
            go_ret
            exact ⟨rfl, HK5.out⟩
      · rcases o2 with o2 | ⟨k2, o2⟩
        · rcases o3 with o3 | ⟨k3, o3⟩
          · have P1 := Lib.hid o1
            have P2 := Lib.hid o2
            have P3 := Lib.hid o3
            clear o1 o2 o3
            go_wp2_with fail
            refine (kparse_any YB _ (by omega) (HL.out.kept HK2.out)).mono ?_
            rintro e w3 ⟨v3, x3, n3, q3, rfl, hi, hr, hk⟩
            obtain ⟨rfl, rfl, rfl⟩ := P1.out.unique hi
            have HK3 := Lib.hid (HK2.out.trans hk)
            have HR3 := Lib.hid (HR2.out.kept hk)
            clear hi hr hk
            go_wp2_with fail
            refine (kparse_any YC _ (by omega) (HL.out.kept HK3.out)).mono ?_
            rintro e w4 ⟨v4, x4, n4, q4, rfl, hi, hr, hk⟩
            obtain ⟨rfl, rfl, rfl⟩ := P2.out.unique hi
            have HK4 := Lib.hid (HK3.out.trans hk)
            have HR4 := Lib.hid (HR3.out.kept hk)
            clear hi hr hk
            go_wp2_with fail
            refine (kparse_any YA _ (by omega) (HL.out.kept HK4.out)).mono ?_
            rintro e w5 ⟨v5, x5, n5, q5, rfl, hi, hr, hk⟩
            obtain ⟨rfl, rfl, rfl⟩ := P3.out.unique hi
            have HK5 := Lib.hid (HK4.out.trans hk)
            have HR5 := Lib.hid (HR4.out.kept hk)
            clear hi hr hk
            go_wp2
            go_ret
            exact ⟨rfl, HK5.out⟩
          · have P1 := Lib.hid o1
            have P2 := Lib.hid o2
            have P3 := Lib.hid o3
            clear o1 o2 o3
            go_wp2_with fail
            refine (kparse_any YB _ (by omega) (HL.out.kept HK2.out)).mono ?_
            rintro e w3 ⟨v3, x3, n3, q3, rfl, hi, hr, hk⟩
            obtain ⟨rfl, rfl, rfl⟩ := P1.out.unique hi
            have HK3 := Lib.hid (HK2.out.trans hk)
            have HR3 := Lib.hid (HR2.out.kept hk)
            clear hi hr hk
            go_wp2_with fail
            refine (kparse_any YC _ (by omega) (HL.out.kept HK3.out)).mono ?_
            rintro e w4 ⟨v4, x4, n4, q4, rfl, hi, hr, hk⟩
            obtain ⟨rfl, rfl, rfl⟩ := P2.out.unique hi
            have HK4 := Lib.hid (HK3.out.trans hk)
            have HR4 := Lib.hid (HR3.out.kept hk)
            clear hi hr hk
            go_wp2_with fail
            refine (kparse_any YA _ (by omega) (HL.out.kept HK4.out)).mono ?_
            rintro e w5 ⟨v5, x5, n5, q5, rfl, hi, hr, hk⟩
            obtain ⟨rfl, rfl, rfl⟩ := P3.out.unique hi
            have HK5 := Lib.hid (HK4.out.trans hk)
            have HR5 := Lib.hid (HR4.out.kept hk)
            clear hi hr hk
            go_wp2
            go_ret
            exact ⟨rfl, HK5.out⟩
        · rcases o3 with o3 | ⟨k3, o3⟩
          · have P1 := Lib.hid o1
            have P2 := Lib.hid o2
            have P3 := Lib.hid o3
            clear o1 o2 o3
            go_wp2_with fail
            refine (kparse_any YB _ (by omega) (HL.out.kept HK2.out)).mono ?_
            rintro e w3 ⟨v3, x3, n3, q3, rfl, hi, hr, hk⟩
            obtain ⟨rfl, rfl, rfl⟩ := P1.out.unique hi
            have HK3 := Lib.hid (HK2.out.trans hk)
            have HR3 := Lib.hid (HR2.out.kept hk)
            clear hi hr hk
            go_wp2_with fail
            refine (kparse_any YC _ (by omega) (HL.out.kept HK3.out)).mono ?_
            rintro e w4 ⟨v4, x4, n4, q4, rfl, hi, hr, hk⟩
            obtain ⟨rfl, rfl, rfl⟩ := P2.out.unique hi
            have HK4 := Lib.hid (HK3.out.trans hk)
            have HR4 := Lib.hid (HR3.out.kept hk)
            clear hi hr hk
            go_wp2_with fail
            refine (kparse_any YA _ (by omega) (HL.out.kept HK4.out)).mono ?_
            rintro e w5 ⟨v5, x5, n5, q5, rfl, hi, hr, hk⟩
            obtain ⟨rfl, rfl, rfl⟩ := P3.out.unique hi
            have HK5 := Lib.hid (HK4.out.trans hk)
            have HR5 := Lib.hid (HR4.out.kept hk)
            clear hi hr hk
            go_wp2
            go_ret
            exact ⟨rfl, HK5.out⟩
          · have P1 := Lib.hid o1
            have P2 := Lib.hid o2
            have P3 := Lib.hid o3
            clear o1 o2 o3
            go_wp2_with fail
            refine (kparse_any YB _ (by omega) (HL.out.kept HK2.out)).mono ?_
            rintro e w3 ⟨v3, x3, n3, q3, rfl, hi, hr, hk⟩
            obtain ⟨rfl, rfl, rfl⟩ := P1.out.unique hi
            have HK3 := Lib.hid (HK2.out.trans hk)
            have HR3 := Lib.hid (HR2.out.kept hk)
            clear hi hr hk
            go_wp2_with fail
            refine (kparse_any YC _ (by omega) (HL.out.kept HK3.out)).mono ?_
            rintro e w4 ⟨v4, x4, n4, q4, rfl, hi, hr, hk⟩
            obtain ⟨rfl, rfl, rfl⟩ := P2.out.unique hi
            have HK4 := Lib.hid (HK3.out.trans hk)
            have HR4 := Lib.hid (HR3.out.kept hk)
            clear hi hr hk
            go_wp2_with fail
            refine (kparse_any YA _ (by omega) (HL.out.kept HK4.out)).mono ?_
            rintro e w5 ⟨v5, x5, n5, q5, rfl, hi, hr, hk⟩
            obtain ⟨rfl, rfl, rfl⟩ := P3.out.unique hi
            have HK5 := Lib.hid (HK4.out.trans hk)
            have HR5 := Lib.hid (HR4.out.kept hk)
            clear hi hr hk
            go_wp2
            go_ret
            exact ⟨rfl, HK5.out⟩
    · have gq : (q == 0) = false := by rw [beq_eq_false_iff_ne]; exact hq
      clear hi hq
      go_wp2
      go_ret
      exact ⟨rfl, HK2.out⟩

end Go.Proofs.YtdapdpmplbifdaaDoor
