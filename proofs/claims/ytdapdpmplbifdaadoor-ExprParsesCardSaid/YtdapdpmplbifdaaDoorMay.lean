/- Contracts and lemmas: May -/
import Derived.Test.YtdapdpmplbifdaaDoorLa
namespace Go.Proofs.YtdapdpmplbifdaaDoor
set_option linter.unusedVariables false
set_option linter.unusedSimpArgs false
open Go.RowKit Go.ChangeShapes Go.WideShapes
/-- a letter -/
def amLetB (c : UInt8) : Bool := decide (97 ≤ (c.toNat : Int) ∧ (c.toNat : Int) ≤ 122)
/-- a further byte -/
def amFurB (c : UInt8) : Bool := decide ((48 ≤ (c.toNat : Int) ∧ (c.toNat : Int) ≤ 57) ∨ (c.toNat : Int) = 45 ∨ (c.toNat : Int) = 46)
def amOkB (c : UInt8) : Bool := amLetB c || amFurB c
/-- may be a name -/
def amMayB (s : List UInt8) : Bool := decide (1 ≤ s.length ∧ s.length ≤ 24) && (s.head?.map amLetB).getD false && s.all amOkB

set_option maxHeartbeats 400000 in
theorem amLetter_any (c : UInt8) (w : World) :
    Calls Tryd.prog 84 #[.int .u8 c.toNat] w fun e w' => e = .returned (.bool (amLetB c)) ∧ w = w' := by
  have hc := c.toNat_lt
  unfold amLetB
  go_enter Tryd.func84, Tryd.ntmps84
  go_wp2
  all_goals (go_ret; exact ⟨ret_bool (by simp; try omega), rfl⟩)

set_option maxHeartbeats 400000 in
theorem amFurther_any (c : UInt8) (w : World) :
    Calls Tryd.prog 85 #[.int .u8 c.toNat] w fun e w' => e = .returned (.bool (amFurB c)) ∧ w = w' := by
  have hc := c.toNat_lt
  unfold amFurB
  go_enter Tryd.func85, Tryd.ntmps85
  go_wp2
  all_goals (go_ret; exact ⟨ret_bool (by first | rfl | (rw [Bool.eq_iff_iff]; simp; done) | (rw [Bool.eq_iff_iff]; simp; omega)), rfl⟩)

theorem am_all_take (p : UInt8 → Bool) (s : ByteArray) (k : Nat) (h : k < s.size) :
    (s.data.toList.take (k + 1)).all p = ((s.data.toList.take k).all p && p s[k]) := by
  rw [List.take_succ_eq_append_getElem (by simpa using h)]
  simp [List.all_append]
  rfl

set_option maxHeartbeats 400000 in
theorem amay0_any (s : ByteArray) (w : World) (hs : s.size ≤ maxLen) :
    Calls Tryd.prog 78 #[.string s] w fun e w' => e = .returned (.bool (amMayB s.data.toList)) ∧ w = w' := by
  unfold maxLen at hs
  have hlen : s.data.toList.length = s.size := by simp
  by_cases h0 : s.size = 0
  · have hv : Hid (amMayB s.data.toList = false) := by simp [Hid, amMayB, hlen, h0]
    go_enter Tryd.func78, Tryd.ntmps78
    go_wp2
    go_ret
    exact ⟨ret_bool hv.out.symm, rfl⟩
  by_cases h1 : 24 < s.size
  · have hv : Hid (amMayB s.data.toList = false) := by simp [Hid, amMayB, hlen]; omega
    go_enter Tryd.func78, Tryd.ntmps78
    go_wp2
    go_ret
    exact ⟨ret_bool hv.out.symm, rfl⟩
  have hp : 0 < s.size := by omega
  have hhead : s.data.toList.head? = some s[0] := by
    rw [List.head?_eq_getElem?, List.getElem?_eq_getElem (by simpa using hp)]; rfl
  by_cases h2 : amLetB s[0] = false
  · have hv : Hid (amMayB s.data.toList = false) := by simp [Hid, amMayB, hhead, h2]
    clear hhead
    go_enter Tryd.func78, Tryd.ntmps78
    go_wp2_with (go_at_call 84; refine (amLetter_any _ _).mono ?_; rintro e w' ⟨rfl, rfl⟩)
    go_ret
    exact ⟨ret_bool hv.out.symm, rfl⟩
  have h3 : amLetB s[0] = true := by simpa using h2
  have hv : Hid (amMayB s.data.toList = s.data.toList.all amOkB) := by
    simp [Hid, amMayB, hhead, h3]; intro _; omega
  have g0 : ((s.size : Int) == 0) = false := by simpa using h0
  have g1 : decide (24 < (s.size : Int)) = false := by simp; omega
  clear hhead h2 h0 h1 hlen
  go_enter Tryd.func78, Tryd.ntmps78
  go_wp2_with (go_at_call 84; refine (amLetter_any _ _).mono ?_; rintro e w' ⟨rfl, rfl⟩)
  clear h3 g0 g1
  go_loop [3, 20] (fun _ i => ∃ k : Nat, k ≤ s.size ∧ i = .int .i64 k ∧ (s.data.toList.take k).all amOkB = true) (fun _ i => s.size - (intOf i).toNat)
  case atStart => exact ⟨0, by omega, rfl, rfl⟩
  case round =>
    obtain ⟨k, hk, rfl, hall⟩ := hrel
    have Hall := Lib.hid hall
    clear hall
    by_cases hlt : k < s.size
    · have hts := Lib.hid (am_all_take amOkB s k hlt)
      cases hl : amLetB s[k]
      · cases hf : amFurB s[k]
        · go_wp2_with (first | (go_at_call 84; refine (amLetter_any _ _).mono ?_; rintro e w' ⟨rfl, rfl⟩) | (go_at_call 85; refine (amFurther_any _ _).mono ?_; rintro e w' ⟨rfl, rfl⟩))
          go_ret
          refine ⟨ret_bool ?_, rfl⟩
          rw [hv.out]
          symm
          rw [List.all_eq_false]
          exact ⟨s[k], by simp [ByteArray.getElem_eq_getElem_data], by simp [amOkB, hl, hf]⟩
        · go_wp2_with (first | (go_at_call 84; refine (amLetter_any _ _).mono ?_; rintro e w' ⟨rfl, rfl⟩) | (go_at_call 85; refine (amFurther_any _ _).mono ?_; rintro e w' ⟨rfl, rfl⟩))
          go_round
          case rel => exact ⟨k + 1, by omega, by go_num, by rw [hts.out, Hall.out]; simp [amOkB, hl, hf]⟩
          case measure => simp [intOf]; omega
      · go_wp2_with (first | (go_at_call 84; refine (amLetter_any _ _).mono ?_; rintro e w' ⟨rfl, rfl⟩) | (go_at_call 85; refine (amFurther_any _ _).mono ?_; rintro e w' ⟨rfl, rfl⟩))
        go_round
        case rel => exact ⟨k + 1, by omega, by go_num, by rw [hts.out, Hall.out]; simp [amOkB, hl]⟩
        case measure => simp [intOf]; omega
    · go_wp2
      go_ret
      refine ⟨ret_bool ?_, rfl⟩
      rw [hv.out]
      have := Hall.out
      rw [List.take_of_length_le (by simp; omega)] at this
      exact this.symm
theorem am_let (c : UInt8) : amLetB c = tLet c := by unfold amLetB tLet; rw [decide_eq_decide]; omega
theorem am_ok (c : UInt8) : amOkB c = tIn c := by
  have h1 := dig_byte c
  have h2 := byte_is c 45 45 rfl (by omega)
  have h3 := byte_is c 46 46 rfl (by omega)
  unfold amOkB tIn
  rw [am_let, ← h1, show (c == 45) = (c == UInt8.ofNat 45) from rfl, show (c == 46) = (c == UInt8.ofNat 46) from rfl, ← h2, ← h3]
  unfold amFurB rDig
  simp only [Bool.decide_or]
theorem am_may (l : List UInt8) : amMayB l = tMay l := by
  unfold amMayB tMay
  rw [show amLetB = tLet from funext am_let, show amOkB = tIn from funext am_ok, Bool.and_assoc]
theorem amay_any (s : ByteArray) (w : World) (hs : s.size ≤ maxLen) :
    Calls Tryd.prog 78 #[.string s] w fun e w' => e = .returned (.bool (tMay (bs s))) ∧ w = w' := by
  rw [← am_may]
  exact amay0_any s w hs

end Go.Proofs.YtdapdpmplbifdaaDoor
