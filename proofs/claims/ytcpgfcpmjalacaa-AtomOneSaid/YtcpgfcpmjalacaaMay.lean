/- May of package atom and of the reference: what each one returns. -/
import Derived.Test.YtcpgfcpmjalacaaRows
import Derived.WalkKit
import Derived.Lib.Hide
import Derived.WalkSpells
import Derived.WalkLawsBesides
namespace Go.Proofs.Ytcpgfcpmjalacaa
open Go.RowKit

theorem ret_bool {a b : Bool} (h : a = b) : Ending.returned (.bool a) = .returned (.bool b) := by rw [h]
theorem ret_int {k : IntKind} {a b : Int} (h : a = b) : Ending.returned (.int k a) = .returned (.int k b) := by rw [h]

/-- a letter -/
def letB (c : UInt8) : Bool := decide (97 ≤ (c.toNat : Int) ∧ (c.toNat : Int) ≤ 122)
/-- a further byte -/
def furB (c : UInt8) : Bool := decide ((48 ≤ (c.toNat : Int) ∧ (c.toNat : Int) ≤ 57) ∨ (c.toNat : Int) = 45 ∨ (c.toNat : Int) = 46)
def okB (c : UInt8) : Bool := letB c || furB c
/-- may be a name -/
def mayB (s : List UInt8) : Bool := decide (1 ≤ s.length ∧ s.length ≤ 24) && (s.head?.map letB).getD false && s.all okB

set_option maxHeartbeats 400000 in
theorem isLetter_any (c : UInt8) (w : World) :
    Calls Try.prog 37 #[.int .u8 c.toNat] w fun e w' => e = .returned (.bool (letB c)) ∧ w = w' := by
  have hc := c.toNat_lt
  unfold letB
  go_enter Try.func37, Try.ntmps37
  go_wp2
  all_goals (go_ret; exact ⟨ret_bool (by simp; try omega), rfl⟩)

set_option maxHeartbeats 400000 in
theorem isFurther_any (c : UInt8) (w : World) :
    Calls Try.prog 38 #[.int .u8 c.toNat] w fun e w' => e = .returned (.bool (furB c)) ∧ w = w' := by
  have hc := c.toNat_lt
  unfold furB
  go_enter Try.func38, Try.ntmps38
  go_wp2
  all_goals (go_ret; exact ⟨ret_bool (by first | rfl | (rw [Bool.eq_iff_iff]; simp; done) | (rw [Bool.eq_iff_iff]; simp; omega)), rfl⟩)

theorem all_take_succ (p : UInt8 → Bool) (s : ByteArray) (k : Nat) (h : k < s.size) :
    (s.data.toList.take (k + 1)).all p = ((s.data.toList.take k).all p && p s[k]) := by
  rw [List.take_succ_eq_append_getElem (by simpa using h)]
  simp [List.all_append]
  rfl

set_option maxHeartbeats 400000 in
theorem may_any (s : ByteArray) (w : World) (hs : s.size ≤ maxLen) :
    Calls Try.prog 26 #[.string s] w fun e w' => e = .returned (.bool (mayB s.data.toList)) ∧ w = w' := by
  unfold maxLen at hs
  have hlen : s.data.toList.length = s.size := by simp
  by_cases h0 : s.size = 0
  · have hv : Hid (mayB s.data.toList = false) := by simp [Hid, mayB, hlen, h0]
    go_enter Try.func26, Try.ntmps26
    go_wp2
    go_ret
    exact ⟨ret_bool hv.out.symm, rfl⟩
  by_cases h1 : 24 < s.size
  · have hv : Hid (mayB s.data.toList = false) := by simp [Hid, mayB, hlen]; omega
    go_enter Try.func26, Try.ntmps26
    go_wp2
    go_ret
    exact ⟨ret_bool hv.out.symm, rfl⟩
  have hp : 0 < s.size := by omega
  have hhead : s.data.toList.head? = some s[0] := by
    rw [List.head?_eq_getElem?, List.getElem?_eq_getElem (by simpa using hp)]; rfl
  by_cases h2 : letB s[0] = false
  · have hv : Hid (mayB s.data.toList = false) := by simp [Hid, mayB, hhead, h2]
    clear hhead
    go_enter Try.func26, Try.ntmps26
    go_wp2_with (go_at_call 37; refine (isLetter_any _ _).mono ?_; rintro e w' ⟨rfl, rfl⟩)
    go_ret
    exact ⟨ret_bool hv.out.symm, rfl⟩
  have h3 : letB s[0] = true := by simpa using h2
  have hv : Hid (mayB s.data.toList = s.data.toList.all okB) := by
    simp [Hid, mayB, hhead, h3]; intro _; omega
  have g0 : ((s.size : Int) == 0) = false := by simpa using h0
  have g1 : decide (24 < (s.size : Int)) = false := by simp; omega
  clear hhead h2 h0 h1 hlen
  go_enter Try.func26, Try.ntmps26
  go_wp2_with (go_at_call 37; refine (isLetter_any _ _).mono ?_; rintro e w' ⟨rfl, rfl⟩)
  clear h3 g0 g1
  go_loop [3, 20] (fun _ i => ∃ k : Nat, k ≤ s.size ∧ i = .int .i64 k ∧ (s.data.toList.take k).all okB = true) (fun _ i => s.size - (intOf i).toNat)
  case atStart => exact ⟨0, by omega, rfl, rfl⟩
  case round =>
    obtain ⟨k, hk, rfl, hall⟩ := hrel
    have Hall := Lib.hid hall
    clear hall
    by_cases hlt : k < s.size
    · have hts := Lib.hid (all_take_succ okB s k hlt)
      cases hl : letB s[k]
      · cases hf : furB s[k]
        · go_wp2_with (first | (go_at_call 37; refine (isLetter_any _ _).mono ?_; rintro e w' ⟨rfl, rfl⟩) | (go_at_call 38; refine (isFurther_any _ _).mono ?_; rintro e w' ⟨rfl, rfl⟩))
          go_ret
          refine ⟨ret_bool ?_, rfl⟩
          rw [hv.out]
          symm
          rw [List.all_eq_false]
          exact ⟨s[k], by simp [ByteArray.getElem_eq_getElem_data], by simp [okB, hl, hf]⟩
        · go_wp2_with (first | (go_at_call 37; refine (isLetter_any _ _).mono ?_; rintro e w' ⟨rfl, rfl⟩) | (go_at_call 38; refine (isFurther_any _ _).mono ?_; rintro e w' ⟨rfl, rfl⟩))
          go_round
          case rel => exact ⟨k + 1, by omega, by go_num, by rw [hts.out, Hall.out]; simp [okB, hl, hf]⟩
          case measure => simp [intOf]; omega
      · go_wp2_with (first | (go_at_call 37; refine (isLetter_any _ _).mono ?_; rintro e w' ⟨rfl, rfl⟩) | (go_at_call 38; refine (isFurther_any _ _).mono ?_; rintro e w' ⟨rfl, rfl⟩))
        go_round
        case rel => exact ⟨k + 1, by omega, by go_num, by rw [hts.out, Hall.out]; simp [okB, hl]⟩
        case measure => simp [intOf]; omega
    · go_wp2
      go_ret
      refine ⟨ret_bool ?_, rfl⟩
      rw [hv.out]
      have := Hall.out
      rw [List.take_of_length_le (by simp; omega)] at this
      exact this.symm
end Go.Proofs.Ytcpgfcpmjalacaa
