/- Find of package word. -/
import Derived.Test.YtbpkfaoaphegnaaTell
import Derived.Deep.RegionWith
namespace Go.Proofs.Ytbpkfaoaphegnaa
set_option linter.unusedVariables false
open Go.RowKit

/-- a place is told -/
def FindPost (w v : ByteArray) (i : Int) (W : World) (e : Ending) (W' : World) : Prop := ∃ r, e = .returned (.int .i64 r) ∧ FindIs w v i r ∧ Kept W W'

theorem find_none {w v : ByteArray} {i : Int} (h : tornB v = true ∨ v.size = 0) : FindIs w v i (-1) := by unfold FindIs; rw [if_pos h]
theorem find_not {w v : ByteArray} {i : Int} (h : tornB v = false) (h2 : v.size ≠ 0) (h3 : ∀ k : Nat, i ≤ k → standsB w v k = false) : FindIs w v i (-1) := by
  unfold FindIs; rw [if_neg (by simp [h, h2])]; exact .inl ⟨rfl, h3⟩
theorem find_at {w v : ByteArray} {i : Int} {k : Nat} (h : tornB v = false) (h2 : v.size ≠ 0) (h3 : i ≤ k) (h4 : standsB w v k = true) (h5 : ∀ j : Nat, j < k → i ≤ j → standsB w v j = false) : FindIs w v i k := by
  unfold FindIs; rw [if_neg (by simp [h, h2])]; exact .inr ⟨k, rfl, h3, h4, h5⟩
theorem stands_far {w v : ByteArray} {k : Nat} (hv : v.size ≠ 0) (h : w.size < 2 * k + v.size) : standsB w v k = false := by
  cases hs : standsB w v k with
  | false => rfl
  | true => have := stands_le hs (by omega); omega
theorem stands_eq {w v : ByteArray} {k : Nat} : ((w.extract (2 * k) (2 * k + v.size)).toList == v.toList) = standsB w v k := by
  rw [bs_toList, bs_toList, bs_extract, Nat.add_sub_cancel_left, Bool.eq_iff_iff]
  simp [standsB]

set_option maxHeartbeats 2000000 in
theorem find_any (w v : ByteArray) (i : Int) (W : World) (hw : w.size ≤ 100000) (hv : v.size ≤ 100000) (wi : (Lit.int .i64 i).wf = true) :
    Calls Try.prog 21 #[.string w, .string v, .int .i64 i] W (FindPost w v i W) := by
  obtain ⟨hi0, hi1⟩ := i64_bounds wi
  clear wi
  have hw0 : w.size ≤ maxLen := by unfold maxLen; omega
  have hv0 : v.size ≤ maxLen := by unfold maxLen; omega
  cases ht : tornB v
  · by_cases h0 : v.size = 0
    · have HA := Lib.hid (find_none (w := w) (i := i) (.inr h0))
      have h1 : ((v.size : Int) / 2 == 0) = true := by simp [h0]
      clear h0
      go_enter Try.func21, Try.ntmps21
      go_wp2_with (first | (go_at_call 31; refine (isTorn_any _ _ hv0).mono ?_; rintro e w' ⟨rfl, rfl⟩; rw [ht]) | (go_at_call 15; refine (len_any _ _ hv0).mono ?_; rintro e w' ⟨rfl, rfl⟩))
      go_ret
      exact ⟨_, rfl, HA.out, Fr.refl _ _⟩
    · have hte := tornB_false ht
      have h1 : ((v.size : Int) / 2 == 0) = false := by rw [beq_eq_false_iff_ne]; omega
      obtain ⟨b, hb⟩ : ∃ b, b = (i.toNat : Nat) := ⟨_, rfl⟩
      have HB : Hid (∀ j : Nat, j < b → i ≤ j → standsB w v j = false) := Lib.hid (fun j hj hij => by omega)
      have HB2 : Hid (b = i.toNat) := Lib.hid hb
      have hb1 : (b : Int) ≤ 9223372036854775807 := by omega
      have HT := Lib.hid ht
      have HE := Lib.hid hte
      have H0 := Lib.hid h0
      clear hb
      go_enter Try.func21, Try.ntmps21
      go_wp2_with (first | (go_at_call 31; refine (isTorn_any _ _ hv0).mono ?_; rintro e w' ⟨rfl, rfl⟩; rw [ht]) | (go_at_call 15; refine (len_any _ _ hv0).mono ?_; rintro e w' ⟨rfl, rfl⟩))
      all_goals
        clear h1
        go_loop [7] (fun p => ∃ k : Nat, p = .int .i64 k ∧ k ≤ 9223372036854775807 ∧ i ≤ k ∧ Hid (∀ j : Nat, j < k → i ≤ j → standsB w v j = false)) (fun p => w.size + 1 - (intOf p).toNat)
        case atStart => exact ⟨b, congrArg (Value.int .i64) (by have := HB2.out; omega), by omega, by have := HB2.out; omega, HB⟩
        case round =>
          obtain ⟨k, rfl, hk, hik, hall⟩ := hrel
          by_cases hlt : 2 * k + v.size ≤ w.size
          · have h1 : (k : Int) ≤ (w.size : Int) / 2 - (v.size : Int) / 2 := by omega
            have x1 : ∀ wx, (Instr.slice 22 (.string w) (some (.int .i64 (2 * (k : Int)))) (some (.int .i64 (2 * (k : Int) + (v.size : Int)))) none).run Try.prog wx = .ok (.string (w.extract (2 * k) (2 * k + v.size))) wx := fun wx => by
              rw [run_slice_string wx 22 w _ _ _ _ Try.underlying22 (by omega) (by omega) (by omega)]
              congr 3
            have HE2 := Lib.hid (stands_eq (w := w) (v := v) (k := k))
            generalize w.extract (2 * k) (2 * k + v.size) = p at *
            cases hst : standsB w v k
            · have hst2 : (p.toList == v.toList) = false := HE2.out.trans hst
              have HA : Hid (∀ j : Nat, j < k + 1 → i ≤ j → standsB w v j = false) := Lib.hid (fun j hj hij => by
                rcases Nat.lt_or_ge j k with h | h
                · exact hall.out j h hij
                · obtain rfl : j = k := by omega
                  exact hst)
              clear hst
              go_wp2_with fail
              refine (len_any w _ hw0).mono ?_
              rintro e w' ⟨rfl, rfl⟩
              go_wp2_with fail
              refine (len_any v _ hv0).mono ?_
              rintro e w' ⟨rfl, rfl⟩
              go_wp2_with fail
              go_round
              case rel => exact ⟨k + 1, by go_num, by omega, by omega, HA⟩
              case measure => simp [intOf]; omega
            · have hst2 : (p.toList == v.toList) = true := HE2.out.trans hst
              have HA := Lib.hid (find_at HT.out H0.out hik hst hall.out)
              clear hst
              go_wp2_with fail
              refine (len_any w _ hw0).mono ?_
              rintro e w' ⟨rfl, rfl⟩
              go_wp2_with fail
              refine (len_any v _ hv0).mono ?_
              rintro e w' ⟨rfl, rfl⟩
              go_wp2_with fail
              go_ret
              exact ⟨_, rfl, HA.out, Fr.refl _ _⟩
          · have h1 : ¬ (k : Int) ≤ (w.size : Int) / 2 - (v.size : Int) / 2 := by have := HE.out; omega
            have HA := Lib.hid (find_not (w := w) (v := v) (i := i) HT.out H0.out (fun j hj => by
              rcases Nat.lt_or_ge j k with h | h
              · exact hall.out j h hj
              · exact stands_far H0.out (by omega)))
            go_wp2_with fail
            refine (len_any w _ hw0).mono ?_
            rintro e w' ⟨rfl, rfl⟩
            go_wp2_with fail
            refine (len_any v _ hv0).mono ?_
            rintro e w' ⟨rfl, rfl⟩
            go_wp2_with fail
            go_ret
            exact ⟨_, rfl, HA.out, Fr.refl _ _⟩
  · have HA := Lib.hid (find_none (w := w) (i := i) (.inl ht))
    go_enter Try.func21, Try.ntmps21
    go_wp2_with (first | (go_at_call 31; refine (isTorn_any _ _ hv0).mono ?_; rintro e w' ⟨rfl, rfl⟩; rw [ht]) | (go_at_call 15; refine (len_any _ _ hv0).mono ?_; rintro e w' ⟨rfl, rfl⟩))
    go_ret
    exact ⟨_, rfl, HA.out, Fr.refl _ _⟩
end Go.Proofs.Ytbpkfaoaphegnaa
