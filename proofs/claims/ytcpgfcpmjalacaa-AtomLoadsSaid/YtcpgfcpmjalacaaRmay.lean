/- May of the reference: as May of package atom. -/
import Derived.Test.YtcpgfcpmjalacaaAwake
namespace Go.Proofs.Ytcpgfcpmjalacaa
open Go.RowKit

/-- the byte at the place k is right -/
def atB (k : Nat) (c : UInt8) : Bool := letB c || (decide (k ≠ 0) && furB c)

theorem mayB_of {l : List UInt8} (h1 : 1 ≤ l.length) (h2 : l.length ≤ 24) (h : ∀ k c, l[k]? = some c → atB k c = true) : mayB l = true := by
  cases l with
  | nil => simp at h1
  | cons x r =>
    have hx := h 0 x rfl
    simp [atB] at hx
    have hall : (x :: r).all okB = true := by
      rw [List.all_eq_true]
      intro c hc
      obtain ⟨k, hk⟩ := List.mem_iff_getElem?.1 hc
      have := h k c hk
      simp [atB] at this
      rcases this with h | h
      · simp [okB, h]
      · simp [okB, h.2]
    simp [mayB] at hall ⊢
    simp at h2
    exact ⟨⟨h2, hx⟩, hall⟩
theorem mayB_not {l : List UInt8} {k : Nat} {c : UInt8} (hk : l[k]? = some c) (h : atB k c = false) : mayB l = false := by
  simp [atB] at h
  cases l with
  | nil => simp at hk
  | cons x r =>
    by_cases h0 : k = 0
    · subst h0
      simp at hk
      subst hk
      simp [mayB, h.1]
    · have hf := h.2 h0
      have : (x :: r).all okB = false := by
        rw [List.all_eq_false]
        exact ⟨c, List.mem_of_getElem? hk, by simp [okB, h.1, hf]⟩
      simp only [mayB, this, Bool.and_false]

set_option maxHeartbeats 2000000 in
theorem rmay_any (s : ByteArray) (w : World) (hs : s.size ≤ maxLen) :
    Calls Try.prog 27 #[.string s] w fun e w' => e = .returned (.bool (mayB s.data.toList)) ∧ w = w' := by
  unfold maxLen at hs
  have hlen : s.data.toList.length = s.size := by simp
  by_cases h0 : s.size < 1
  · have hv : Hid (mayB s.data.toList = false) := by simp [Hid, mayB, hlen]; omega
    have h0' : (s.size : Int) < 1 := by omega
    go_enter Try.func27, Try.ntmps27
    go_wp2
    go_ret
    exact ⟨ret_bool hv.out.symm, rfl⟩
  by_cases h1 : 24 < s.size
  · have hv : Hid (mayB s.data.toList = false) := by simp [Hid, mayB, hlen]; omega
    have h0' : ¬ (s.size : Int) < 1 := by omega
    have h1' : 24 < (s.size : Int) := by omega
    go_enter Try.func27, Try.ntmps27
    go_wp2
    go_ret
    exact ⟨ret_bool hv.out.symm, rfl⟩
  have h0' : decide ((s.size : Int) < 1) = false := by simp; omega
  have h1' : decide (24 < (s.size : Int)) = false := by simp; omega
  have HL := Lib.hid hlen
  clear hlen
  go_enter Try.func27, Try.ntmps27
  go_wp2
  go_loop [3] (fun i => ∃ k : Nat, k ≤ s.size ∧ i = .int .i64 k ∧ Hid (∀ j c, j < k → s.data.toList[j]? = some c → atB j c = true)) (fun i => s.size - (intOf i).toNat)
  case atStart => exact ⟨0, by omega, rfl, fun j c h => by omega⟩
  case round =>
    obtain ⟨k, hk, rfl, hall⟩ := hrel
    by_cases hlt : k < s.size
    · have hget : Hid (s.data.toList[k]? = some s[k]) := by
        show s.data.toList[k]? = some s[k]
        rw [List.getElem?_eq_getElem (by simpa using hlt)]; rfl
      have hu := s[k].toNat_lt
      have HA : Hid (atB k s[k] = (decide (97 ≤ (s[k].toNat : Int) ∧ (s[k].toNat : Int) ≤ 122) || (decide (k ≠ 0) && decide ((48 ≤ (s[k].toNat : Int) ∧ (s[k].toNat : Int) ≤ 57) ∨ (s[k].toNat : Int) = 45 ∨ (s[k].toNat : Int) = 46)))) := rfl
      have HR : Hid (atB k s[k] = true → ∀ j c, j < k + 1 → s.data.toList[j]? = some c → atB j c = true) := by
        intro ht j c hj hjc
        rcases Nat.lt_or_ge j k with hlt' | hge
        · exact hall.out j c hlt' hjc
        · obtain rfl : j = k := by omega
          rw [hget.out] at hjc; cases hjc; exact ht
      have HN : Hid (atB k s[k] = false → mayB s.data.toList = false) := fun h => mayB_not hget.out h
      clear hget hall
      by_cases hk0 : k = 0
      · subst hk0
        have hcase : (97 ≤ (s[0].toNat : Int) ∧ (s[0].toNat : Int) ≤ 122) ∨ ((s[0].toNat : Int) < 97) ∨ (122 < (s[0].toNat : Int)) := by omega
        rcases hcase with ⟨_, _⟩ | _ | _
        all_goals
          go_wp2
          all_goals first
            | (exfalso; clear HA HR HN HL; simp at *; omega)
            | (go_round
               case rel => exact ⟨1, by omega, rfl, HR.out (by rw [HA.out]; simp; omega)⟩
               case measure => simp [intOf]; omega)
            | (go_ret; exact ⟨ret_bool (HN.out (by rw [HA.out]; simp; omega)).symm, rfl⟩)
      · have hkb : ((k : Int) == 0) = false := by rw [beq_eq_false_iff_ne]; omega
        have hcase : (97 ≤ (s[k].toNat : Int) ∧ (s[k].toNat : Int) ≤ 122) ∨ (48 ≤ (s[k].toNat : Int) ∧ (s[k].toNat : Int) ≤ 57) ∨ ((s[k].toNat : Int) = 45) ∨ ((s[k].toNat : Int) = 46) ∨
          ((s[k].toNat : Int) < 48 ∧ (s[k].toNat : Int) ≠ 45 ∧ (s[k].toNat : Int) ≠ 46) ∨ (57 < (s[k].toNat : Int) ∧ (s[k].toNat : Int) < 97) ∨ (122 < (s[k].toNat : Int)) := by omega
        rcases hcase with ⟨_, _⟩ | ⟨_, _⟩ | _ | _ | ⟨_, _, _⟩ | ⟨_, _⟩ | _
        all_goals
          go_wp2
          all_goals first
            | (exfalso; clear HA HR HN HL; simp at *; omega)
            | (go_round
               case rel => exact ⟨k + 1, by omega, by go_num, HR.out (by rw [HA.out]; simp; omega)⟩
               case measure => simp [intOf]; omega)
            | (go_ret; exact ⟨ret_bool (HN.out (by rw [HA.out]; simp; omega)).symm, rfl⟩)
    · go_wp2
      go_ret
      refine ⟨ret_bool ?_, rfl⟩
      symm
      refine mayB_of (by rw [HL.out]; omega) (by rw [HL.out]; omega) (fun j c hj => hall.out j c ?_ hj)
      have := (List.getElem?_eq_some_iff.1 hj).1
      rw [HL.out] at this; omega
end Go.Proofs.Ytcpgfcpmjalacaa
