/- Contracts and lemmas: Cuts -/
import Derived.Test.YthceckpeccbpiaaDoorArgs
import Derived.Laws.Concat
import Derived.RegionTactic
import Derived.BigRegion
namespace Go.Proofs.YthceckpeccbpiaaDoor
set_option linter.unusedVariables false
set_option linter.unusedSimpArgs false
open Go.RowKit Go.ChangeShapes Go.WideShapes
set_option maxHeartbeats 4000000 in
theorem tokenCuts_walk {w : World} (s : ByteArray) (hs : s.size ≤ maxLen) (hL : LaidT w) :
    Calls Tryd.prog 8 #[.string s] w fun e w' => e = .returned (.bool true) ∧ Kept w w' := by
  have HL := Lib.hid hL
  clear hL
  by_cases h8 : 4000 < s.size
  · have h8i : (4000 : Int) < s.size := by omega
    go_enter Tryd.func8, Tryd.ntmps8
    go_wp2_with fail
    refine (kawake_any _ HL.out).mono ?_
    rintro e w1 ⟨rfl, hk1⟩
    have HK1 := Lib.hid hk1
    clear hk1
    go_wp2
    go_ret
    exact ⟨rfl, HK1.out⟩
  · have h8i : ¬ (4000 : Int) < s.size := by omega
    go_enter Tryd.func8, Tryd.ntmps8
    go_wp2_with fail
    refine (kawake_any _ HL.out).mono ?_
    rintro e w1 ⟨rfl, hk1⟩
    have HK1 := Lib.hid hk1
    clear hk1
    go_wp2_with fail
    refine (kallR s _ (by omega) (HL.out.kept HK1.out)).mono ?_
    rintro e w2 ⟨v, m, p, q, rfl, hr, hk2, hi⟩
    have HI := Lib.hid hi
    have HK2 := Lib.hid (HK1.out.trans hk2)
    clear hr hi hk2 HK1
    by_cases hq : q = 2
    · subst hq
      have HE : Hid (allS (bs s) = .error (p, 2)) := Lib.hid (by
        rcases HI.out with ⟨_, _, h⟩ | ⟨h, _⟩
        · cases h
        · exact h)
      obtain ⟨hp, _, m0, h1, h2, h3⟩ := cuts_same HE.out
      rw [bs_len] at hp h3
      have HI2 : Hid (AllIs (bs (s.extract 0 p)) m0 0 0) := Lib.hid (.inl ⟨by rw [bs_to]; exact h1, rfl, rfl⟩)
      have H3 := Lib.hid h3
      clear h1 h3 HE HI
      have hpi : (p : Int) ≤ (s.size : Int) := by omega
      have hx1 : (s.extract 0 p).size = p := by rw [ByteArray.size_extract]; omega
      have hx2 : (s.extract p s.size).size = s.size - p := by rw [ByteArray.size_extract]; omega
      have h32 : (⟨#[32, 41]⟩ : ByteArray).size = 2 := rfl
      obtain ⟨Y, hY⟩ : ∃ Y, s.extract 0 p ++ ⟨#[32, 41]⟩ = Y := ⟨_, rfl⟩
      have hcat1 : ∀ W, (Op.stringOp .add (s.extract 0 p) ⟨#[32, 41]⟩).run Tryd.prog W = .ok (.string Y) W := fun W => by rw [← hY]; exact run_string_add_sum _ _ _ (by omega)
      have hYs : Y.size = p + 2 := by rw [← hY, ByteArray.size_append]; omega
      obtain ⟨Z, hZ⟩ : ∃ Z, Y ++ s.extract p s.size = Z := ⟨_, rfl⟩
      have hcat2 : ∀ W, (Op.stringOp .add Y (s.extract p s.size)).run Tryd.prog W = .ok (.string Z) W := fun W => by rw [← hZ]; exact run_string_add_sum _ _ _ (by omega)
      have HZ : Hid (bs Z = (bs s).take p ++ 32 :: 41 :: (bs s).drop p) := Lib.hid (by
        rw [← hZ, ← hY, bs_append, bs_append, bs_to, bs_from (by omega), show bs (⟨#[32, 41]⟩ : ByteArray) = [32, 41] from rfl]
        simp)
      have hZs : Z.size ≤ 1000000 := by rw [← hZ, ByteArray.size_append]; omega
      clear hY hZ hYs h32 hx2
      go_wp2_with fail
      refine (kallR (s.extract 0 p) _ (by omega) (HL.out.kept HK2.out)).mono ?_
      rintro e w3 ⟨v2, m2, p2, q2, rfl, hr, hk3, hi⟩
      obtain ⟨rfl, rfl, rfl⟩ := HI2.out.unique hi
      obtain ⟨ao2, c2, rfl, hc2⟩ := hr.form
      have hlen : (toB m0).length = m0.length := by simp [toB]
      rw [hlen] at hc2 hr ⊢
      have HK3 := Lib.hid (HK2.out.trans hk3)
      clear hr hi hk3 HK2 HI2 hlen
      generalize m0.length = n0 at *
      go_wp2
      go_region_with (go_at_call 10; refine (kallR Z _ hZs (by exact HL.out.kept (HK3.out.trans (Fr.of_drew _ _)))).mono ?_; rintro e w4 ⟨v3, m3, p3, q3, rfl, hr, hk4, hi⟩; obtain ⟨ao3, c3, rfl, hc3⟩ := hr.form; have HK4 := Lib.hid ((HK3.out.trans (Fr.of_drew _ _)).trans hk4); have HI3 := Lib.hid hi; clear hr hk4 hi)
      all_goals
        by_cases h39 : 3990 < s.size
        · have h39i : (3990 : Int) < (s.size : Int) := by omega
          clear HI3 H3
          go_wp2
          go_ret
          exact ⟨rfl, HK4.out⟩
        · have h39i : ¬ (3990 : Int) < (s.size : Int) := by omega
          have hz := H3.out (by omega)
          rw [← HZ.out] at hz
          by_cases h1000 : n0 = 1000
          · rw [if_pos h1000] at hz
            obtain ⟨rfl, rfl, rfl⟩ := HI3.out.unique (.inr ⟨hz, rfl⟩)
            clear hz HI3 H3 HZ
            go_wp2
            go_ret
            exact ⟨rfl, HK4.out⟩
          · rw [if_neg h1000] at hz
            obtain ⟨rfl, rfl, rfl⟩ := HI3.out.unique (.inr ⟨hz, rfl⟩)
            have hn0 : (n0 : Int) < 1000 := by omega
            have hpp : (((p + 2 : Nat) : Int) == (p : Int) + 2) = true := by rw [beq_iff_eq]; omega
            have hl0 : (toB []).length = 0 := rfl
            rw [hl0]
            clear hz HI3 H3 HZ h1000
            go_wp2
            go_ret
            exact ⟨rfl, HK4.out⟩
    · have hqb : (q != 2) = true := by simp [hq]
      go_wp2
      go_ret
      exact ⟨rfl, HK2.out⟩

end Go.Proofs.YthceckpeccbpiaaDoor
