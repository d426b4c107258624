/- Contracts and lemmas: Dr -/
import Derived.Test.YtdapdpmplbifdaaDoorSx
namespace Go.Proofs.YtdapdpmplbifdaaDoor
set_option linter.unusedVariables false
set_option linter.unusedSimpArgs false
open Go.RowKit Go.ChangeShapes Go.WideShapes
set_option maxRecDepth 20000 in
set_option maxHeartbeats 4000000 in
theorem kdeepr_any (s : ByteArray) (w : World) (hs : s.size ≤ 1000000) (h : overB 0 (bs s) = true) : Calls Tryd.prog 23 #[.string s] w fun e w' => e = .returned (.bool true) ∧ w = w' := by
  have H0 : Hid (overB 0 (bs s) = overB 0 ((bs s).drop 0)) := Lib.hid rfl
  have HO := Lib.hid h
  clear h
  go_enter Tryd.func23, Tryd.ntmps23
  go_wp2
  go_loop [3, 4, 5] (fun ov tv iv => ∃ (k : Nat) (o t : Int), ov = .int .i64 o ∧ tv = .int .i64 t ∧ iv = .int .i64 k ∧ k ≤ s.size ∧ -(k : Int) ≤ o ∧ o ≤ 100 ∧ 1 ≤ t ∧ t ≤ (k : Int) + 1 ∧ Hid (overB 0 (bs s) = overB o ((bs s).drop k))) (fun _ _ iv => s.size - (intOf iv).toNat)
  case atStart => exact ⟨0, 0, 1, rfl, rfl, rfl, by omega, by omega, by omega, by omega, by omega, H0⟩
  case round =>
    obtain ⟨k, o, t, rfl, rfl, rfl, hk, ho1, ho2, ht1, ht2, hto⟩ := hrel
    clear H0
    by_cases hlt : k < s.size
    · have hlti : (k : Int) < s.size := by omega
      have x1 := run_at s k hlt
      have HST : Hid (overB 0 (bs s) = if 100 < (if s.get! k = 40 then o + 1 else if s.get! k = 41 then o - 1 else o) then true else overB (if s.get! k = 40 then o + 1 else if s.get! k = 41 then o - 1 else o) ((bs s).drop (k + 1))) := Lib.hid (by rw [hto.out, drop_at hlt, overB])
      clear hto
      generalize s.get! k = c at *
      have hcl := c.toNat_lt
      by_cases e40 : c = 40
      · have g40 := eq_yes 40 40 rfl (by omega) e40
        have g41 : ((c.toNat : Int) == 41) = false := by subst e40; rfl
        have g32 : ((c.toNat : Int) == 32) = false := by subst e40; rfl
        by_cases h100 : 100 < o + 1
        · clear HST e40
          go_wp2
          go_ret
          exact ⟨rfl, rfl⟩
        · have HN : Hid (overB 0 (bs s) = overB (o + 1) ((bs s).drop (k + 1))) := Lib.hid (by rw [HST.out, if_pos e40, if_neg h100])
          clear HST e40
          go_wp2
          go_round
          case rel => exact ⟨k + 1, o + 1, t, rfl, rfl, by go_num, by omega, by omega, by omega, by omega, by omega, HN⟩
          case measure => simp [intOf]; omega
      · have g40 := eq_no 40 40 rfl (by omega) e40
        by_cases e41 : c = 41
        · have g41 := eq_yes 41 41 rfl (by omega) e41
          have g32 : ((c.toNat : Int) == 32) = false := by subst e41; rfl
          have h100 : ¬ 100 < o - 1 := by omega
          have HN : Hid (overB 0 (bs s) = overB (o - 1) ((bs s).drop (k + 1))) := Lib.hid (by rw [HST.out, if_neg e40, if_pos e41, if_neg h100])
          clear HST e40 e41
          go_wp2
          go_round
          case rel => exact ⟨k + 1, o - 1, t, rfl, rfl, by go_num, by omega, by omega, by omega, by omega, by omega, HN⟩
          case measure => simp [intOf]; omega
        · have g41 := eq_no 41 41 rfl (by omega) e41
          have h100 : ¬ 100 < o := by omega
          have HN : Hid (overB 0 (bs s) = overB o ((bs s).drop (k + 1))) := Lib.hid (by rw [HST.out, if_neg e40, if_neg e41, if_neg h100])
          clear HST
          by_cases e32 : c = 32
          · have g32 := eq_yes 32 32 rfl (by omega) e32
            clear e40 e41 e32
            go_wp2
            go_round
            case rel => exact ⟨k + 1, o, t + 1, rfl, rfl, by go_num, by omega, by omega, by omega, by omega, by omega, HN⟩
            case measure => simp [intOf]; omega
          · have g32 := eq_no 32 32 rfl (by omega) e32
            clear e40 e41 e32
            go_wp2
            go_round
            case rel => exact ⟨k + 1, o, t, rfl, rfl, by go_num, by omega, by omega, by omega, by omega, by omega, HN⟩
            case measure => simp [intOf]; omega
    · exfalso
      have h1 := hto.out
      rw [List.drop_eq_nil_of_le (by rw [bs_len]; omega), HO.out] at h1
      cases h1

end Go.Proofs.YtdapdpmplbifdaaDoor
