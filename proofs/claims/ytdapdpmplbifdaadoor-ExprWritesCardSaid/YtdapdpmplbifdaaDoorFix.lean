/- Contracts and lemmas: Fix -/
import Derived.Test.YtdapdpmplbifdaaDoorLead2
namespace Go.Proofs.YtdapdpmplbifdaaDoor
set_option linter.unusedVariables false
set_option linter.unusedSimpArgs false
open Go.RowKit Go.ChangeShapes Go.WideShapes
theorem fix_none {s : List UInt8} (h : ∀ j, j < 8 → fixL j ≠ s) : fixK s = 0 := by
  unfold fixK
  rw [if_neg (fun e => h 2 (by decide) e.symm), if_neg (fun e => h 3 (by decide) e.symm), if_neg (fun e => h 4 (by decide) e.symm), if_neg (fun e => h 5 (by decide) e.symm), if_neg (fun e => h 6 (by decide) e.symm), if_neg (fun e => h 7 (by decide) e.symm)]
theorem fix_hit {s : List UInt8} {k : Nat} (hk : k < 8) (h : ∀ j, j < k → fixL j ≠ s) (e : fixL k = s) : fixK s = (k : Int) := by
  have hc : k = 0 ∨ k = 1 ∨ k = 2 ∨ k = 3 ∨ k = 4 ∨ k = 5 ∨ k = 6 ∨ k = 7 := by omega
  rcases hc with rfl | rfl | rfl | rfl | rfl | rfl | rfl | rfl
  · rw [← e]; decide
  · exact absurd e (h 0 (by decide))
  all_goals (rw [← e]; decide)
theorem idx8 (k : Nat) (hk : k < 8) (W : World) : (Instr.index 92 (.agg #[.string (strOf (fixL 0)), .string (strOf (fixL 1)), .string (strOf (fixL 2)), .string (strOf (fixL 3)), .string (strOf (fixL 4)), .string (strOf (fixL 5)), .string (strOf (fixL 6)), .string (strOf (fixL 7))]) (.int .i64 (k : Int))).run Tryd.prog W = .ok (.string (strOf (fixL k))) W := by
  have hc : k = 0 ∨ k = 1 ∨ k = 2 ∨ k = 3 ∨ k = 4 ∨ k = 5 ∨ k = 6 ∨ k = 7 := by omega
  rcases hc with rfl | rfl | rfl | rfl | rfl | rfl | rfl | rfl <;> simp [Instr.index, run_underlying Tryd.underlying92, asInt, asIntOf, part, Tryd.isAgg9]
theorem idx6 (k : Nat) (hk : k < 6) (W : World) : (Instr.index 90 (.agg #[.string (strOf (tPre 0)), .string (strOf (tPre 1)), .string (strOf (tPre 2)), .string (strOf (tPre 3)), .string (strOf (tPre 4)), .string (strOf (tPre 5))]) (.int .i64 (k : Int))).run Tryd.prog W = .ok (.string (strOf (tPre k))) W := by
  have hc : k = 0 ∨ k = 1 ∨ k = 2 ∨ k = 3 ∨ k = 4 ∨ k = 5 := by omega
  rcases hc with rfl | rfl | rfl | rfl | rfl | rfl <;> simp [Instr.index, run_underlying Tryd.underlying90, asInt, asIntOf, part, Tryd.isAgg9]
set_option maxHeartbeats 1000000 in
theorem kfixed_any (s : ByteArray) (w : World) (hL : LaidT w) :
    Calls Tryd.prog 73 #[.string s] w fun e w' => e = .returned (.int .i64 (fixK (bs s))) ∧ w = w' := by
  have f0 := hL.fix 0 (by decide)
  have f1 := hL.fix 1 (by decide)
  have f2 := hL.fix 2 (by decide)
  have f3 := hL.fix 3 (by decide)
  have f4 := hL.fix 4 (by decide)
  have f5 := hL.fix 5 (by decide)
  have f6 := hL.fix 6 (by decide)
  have f7 := hL.fix 7 (by decide)
  clear hL
  go_enter Tryd.func73, Tryd.ntmps73
  go_wp2
  clear f0 f1 f2 f3 f4 f5 f6 f7
  go_loop [6] (fun i => ∃ k : Nat, k ≤ 8 ∧ i = .int .i64 k ∧ Hid (∀ j, j < k → fixL j ≠ bs s)) (fun i => 8 - (intOf i).toNat)
  case atStart => exact ⟨0, by omega, rfl, Lib.hid (fun j h => by omega)⟩
  case round =>
    obtain ⟨k, hk, rfl, hall⟩ := hrel
    by_cases hlt : k < 8
    · have hlti : (k : Int) < 8 := by omega
      have hidx := idx8 k hlt
      by_cases he : fixL k = bs s
      · have HA := Lib.hid (fix_hit hlt hall.out he)
        have hq : ((strOf (fixL k)).toList == s.toList) = true := by rw [bs_toList, bs_strOf, bs_toList, he]; simp
        clear he
        generalize strOf (fixL k) = x at *
        go_wp2
        go_ret
        exact ⟨ret_int HA.out.symm, rfl⟩
      · have HA : Hid (∀ j, j < k + 1 → fixL j ≠ bs s) := Lib.hid (fun j hj => by
          rcases Nat.lt_or_ge j k with h | h
          · exact hall.out j h
          · obtain rfl : j = k := by omega
            exact he)
        have hq : ((strOf (fixL k)).toList == s.toList) = false := by rw [bs_toList, bs_strOf, bs_toList]; simpa using he
        clear he
        generalize strOf (fixL k) = x at *
        go_wp2
        go_round
        case rel => exact ⟨k + 1, by omega, by go_num, HA⟩
        case measure => simp [intOf]; omega
    · have hlti : ¬ (k : Int) < 8 := by omega
      have HA := Lib.hid (fix_none (fun j hj => hall.out j (by omega)))
      go_wp2
      go_ret
      exact ⟨ret_int HA.out.symm, rfl⟩
theorem fixw_all (k : Int) : wordS ⟨k, [], 0⟩ = if 0 ≤ k ∧ k < 8 then fixL k.toNat else [] := by
  by_cases h1 : k = 1
  · subst h1; decide
  by_cases h8 : k = 8
  · subst h8; decide
  by_cases h9 : k = 9
  · subst h9; decide
  rw [word_plain k [] 0 h1 h8 h9, if_pos ⟨rfl, rfl⟩]
  by_cases h : 0 ≤ k ∧ k < 8
  · rw [if_pos h]
    obtain ⟨n, rfl⟩ : ∃ n : Nat, k = n := ⟨k.toNat, by omega⟩
    have hc : n = 0 ∨ n = 2 ∨ n = 3 ∨ n = 4 ∨ n = 5 ∨ n = 6 ∨ n = 7 := by omega
    rcases hc with rfl | rfl | rfl | rfl | rfl | rfl | rfl <;> decide
  · rw [if_neg h, if_neg (by omega), if_neg (by omega), if_neg (by omega), if_neg (by omega), if_neg (by omega), if_neg (by omega)]
theorem kfixword_any (k : Int) (w : World) (hL : LaidT w) :
    Calls Tryd.prog 61 #[.int .i64 k] w fun e w' => e = .returned (.string (strOf (wordS ⟨k, [], 0⟩))) ∧ w = w' := by
  have HW := Lib.hid (fixw_all k)
  by_cases h0 : k < 0
  · have HA : Hid (wordS ⟨k, [], 0⟩ = []) := Lib.hid (by rw [HW.out, if_neg (by omega)])
    clear hL
    go_enter Tryd.func61, Tryd.ntmps61
    go_wp2
    go_ret
    exact ⟨ret_str (by rw [HA.out]; rfl), rfl⟩
  · by_cases h7 : 8 ≤ k
    · have HA : Hid (wordS ⟨k, [], 0⟩ = []) := Lib.hid (by rw [HW.out, if_neg (by omega)])
      clear hL
      go_enter Tryd.func61, Tryd.ntmps61
      go_wp2
      go_ret
      exact ⟨ret_str (by rw [HA.out]; rfl), rfl⟩
    · obtain ⟨n, rfl⟩ : ∃ n : Nat, k = n := ⟨k.toNat, by omega⟩
      have hn : n < 8 := by omega
      have HA : Hid (wordS ⟨(n : Int), [], 0⟩ = fixL n) := Lib.hid (by rw [HW.out, if_pos (by omega)]; rfl)
      have c0 := hL.fix n hn
      have g0 : ¬ (n : Int) < 0 := by omega
      have g8 : ¬ (8 : Int) ≤ (n : Int) := by omega
      have g9 : (n : Int) < 8 := by omega
      clear h0 h7 hL HW
      generalize hx : strOf (fixL n) = x at *
      have HX := Lib.hid hx
      clear hx
      go_enter Tryd.func61, Tryd.ntmps61
      go_wp2
      go_ret
      exact ⟨ret_str (by rw [HA.out]; exact HX.out.symm), rfl⟩

end Go.Proofs.YtdapdpmplbifdaaDoor
