/- Name and All of the reference's tables. -/
import Derived.Test.YtcpgfcpmjalacaaRput
namespace Go.Proofs.Ytcpgfcpmjalacaa
open Go.RowKit

set_option maxHeartbeats 2000000 in
set_option maxRecDepth 100000 in
theorem rname_any {w : World} {F : Nat → Prop} {B : Nat} {L : Nat → List ByteArray} (h : RTab w F B L) (hfew : ∀ k, (L k).length ≤ 4000) (a : Int) (h0 : 0 ≤ a) (h1 : a ≤ 65535) :
    Calls Try.prog 17 #[.pointer (some ⟨B, 0, none⟩), .int .u16 a] w fun e w' => e = .returned (nameV (nameOf L a)) ∧ w = w' := by
  by_cases ha : a = 1
  · subst ha
    clear h hfew
    go_enter Try.func17, Try.ntmps17
    go_wp2
    go_ret2
    exact ⟨rfl, rfl⟩
  have ha' : (a == 1) = false := by simpa using ha
  have HK : Hid (∀ w, Calls Try.prog 23 #[.int .u16 a] w fun e w' => e = .returned (.int .i64 (a / 8192)) ∧ w = w') := fun w => rkind_any a w h0 h1
  have HN : Hid (∀ w, Calls Try.prog 25 #[.int .u16 a] w fun e w' => e = .returned (.int .i64 (a % 8192)) ∧ w = w') := fun w => rnumber_any a w h0 h1
  have hk0 : 0 ≤ a / 8192 := by omega
  have hn0 : 0 ≤ a % 8192 := by omega
  have hn9 : a % 8192 ≤ 8191 := by omega
  have hk7 : a / 8192 ≤ 7 := by omega
  have en : nameOf L a = if 1 ≤ a / 8192 ∧ a / 8192 ≤ 5 ∧ 1 ≤ a % 8192 then (L (a / 8192).toNat)[(a % 8192).toNat - 1]? else none := by
    unfold nameOf; rw [if_neg ha]
  rw [en]
  generalize a / 8192 = kd at *
  generalize a % 8192 = nm at *
  clear en ha
  by_cases hk : 1 ≤ kd ∧ kd ≤ 5
  rotate_left
  · rw [if_neg (fun hh => hk ⟨hh.1, hh.2.1⟩)]
    clear h hfew
    by_cases hk1 : kd < 1
    · clear hk
      go_enter Try.func17, Try.ntmps17
      go_wp2_with (first | (go_at_call 23; refine (HK.out _).mono ?_; rintro e w' ⟨rfl, rfl⟩) | (go_at_call 25; refine (HN.out _).mono ?_; rintro e w' ⟨rfl, rfl⟩))
      go_ret2
      exact ⟨rfl, rfl⟩
    · have hk5 : 5 < kd := by omega
      clear hk
      go_enter Try.func17, Try.ntmps17
      go_wp2_with (first | (go_at_call 23; refine (HK.out _).mono ?_; rintro e w' ⟨rfl, rfl⟩) | (go_at_call 25; refine (HN.out _).mono ?_; rintro e w' ⟨rfl, rfl⟩))
      go_ret2
      exact ⟨rfl, rfl⟩
  obtain ⟨k, rfl⟩ := Int.eq_ofNat_of_zero_le hk0
  obtain ⟨n, rfl⟩ := Int.eq_ofNat_of_zero_le hn0
  have hk1 : ¬ (k : Int) < 1 := by omega
  have hk5 : ¬ 5 < (k : Int) := by omega
  have hki : (k : Int) < 6 := by omega
  by_cases hn1 : (n : Int) < 1
  · rw [if_neg (fun hh => by omega)]
    clear h hfew hk
    go_enter Try.func17, Try.ntmps17
    go_wp2_with (first | (go_at_call 23; refine (HK.out _).mono ?_; rintro e w' ⟨rfl, rfl⟩) | (go_at_call 25; refine (HN.out _).mono ?_; rintro e w' ⟨rfl, rfl⟩))
    go_ret2
    exact ⟨rfl, rfl⟩
  obtain ⟨j, rfl⟩ : ∃ j, n = j + 1 := ⟨n - 1, by omega⟩
  rw [if_pos ⟨hk.1, hk.2, by omega⟩]
  simp only [Int.toNat_natCast, Nat.add_sub_cancel]
  obtain ⟨ao, c, hc, hrd⟩ := h.row (show k < 6 by omega)
  obtain ⟨ao', c', he, hcell⟩ := hrd
  cases he
  have hf := hfew k
  by_cases hlt : j < (L k).length
  · obtain ⟨s, hs⟩ : ∃ s, (L k)[j]? = some s := ⟨_, List.getElem?_eq_getElem hlt⟩
    obtain ⟨g, off, rfl, _, hcj⟩ := hcell j s hs
    rw [hs]
    generalize (L k).length = len at *
    have hjl : ¬ (len : Int) < ((j + 1 : Nat) : Int) := by omega
    clear hcell hs h hfew hk
    go_enter Try.func17, Try.ntmps17
    go_wp2_with (first | (go_at_call 23; refine (HK.out _).mono ?_; rintro e w' ⟨rfl, rfl⟩) | (go_at_call 25; refine (HN.out _).mono ?_; rintro e w' ⟨rfl, rfl⟩))
    go_ret2
    exact ⟨rfl, rfl⟩
  · rw [List.getElem?_eq_none (by omega)]
    generalize (L k).length = len at *
    have hjl : (len : Int) < ((j + 1 : Nat) : Int) := by omega
    clear hcell h hfew hk
    go_enter Try.func17, Try.ntmps17
    go_wp2_with (first | (go_at_call 23; refine (HK.out _).mono ?_; rintro e w' ⟨rfl, rfl⟩) | (go_at_call 25; refine (HN.out _).mono ?_; rintro e w' ⟨rfl, rfl⟩))
    go_ret2
    exact ⟨rfl, rfl⟩

set_option maxHeartbeats 2000000 in
set_option maxRecDepth 100000 in
theorem rall_any {w : World} {F : Nat → Prop} {B : Nat} {L : Nat → List ByteArray} (h : RTab w F B L) (hfew : ∀ k, (L k).length ≤ 4000) (kind : Int) :
    Calls Try.prog 20 #[.pointer (some ⟨B, 0, none⟩), .int .i64 kind] w (NewRow w (allS L kind)) := by
  by_cases hk : 1 ≤ kind ∧ kind ≤ 5
  rotate_left
  · have e0 : allS L kind = [] := by unfold allS; rw [if_neg hk]
    rw [e0]
    have HQ : Hid (NewRow w [] (.returned (.slice none 0 0)) w) := ⟨_, rfl, World.ownsRow_nil _ _ _ _, Fr.refl _ _⟩
    clear h hfew e0
    by_cases hk1 : kind < 1
    · clear hk
      go_enter Try.func20, Try.ntmps20
      go_wp2
      go_ret
      exact HQ.out
    · have hk5 : 5 < kind := by omega
      clear hk
      go_enter Try.func20, Try.ntmps20
      go_wp2
      go_ret
      exact HQ.out
  obtain ⟨k, rfl⟩ := Int.eq_ofNat_of_zero_le (show 0 ≤ kind by omega)
  have e0 : allS L (k : Int) = L k := by unfold allS; rw [if_pos hk]; simp
  rw [e0]
  have hk1 : ¬ (k : Int) < 1 := by omega
  have hk5 : ¬ 5 < (k : Int) := by omega
  have hki : (k : Int) < 6 := by omega
  have hki0 : 0 ≤ (k : Int) := by omega
  obtain ⟨ao, c, hc, hrd⟩ := h.row (show k < 6 by omega)
  have hf := hfew k
  have hB := h.old B h.inB
  have HR := Lib.hid hrd
  generalize hl : (L k).length = n at *
  have HL := Lib.hid hl
  have hsl := Try.slice30
  have HSL := Lib.hid hsl
  clear hk e0 h hfew hrd hsl hl
  go_enter Try.func20, Try.ntmps20
  go_wp2_with (at_builtin; refine list_app rfl (.tmp 11) (.tmp 17) 30 rfl HSL.out (v := .slice (some ⟨w.heap.size, 0, none⟩) 0 0) (n := 0) (xs := []) (base := w.heap.size) (news := (L k).map Value.string) rfl (own_fresh (hp1 w _) (Nat.le_refl _)) rfl (HR.out.same (Fr.of_alloc (fun _ => False) _ _) (fun _ _ x => x)).src.2 (by unfold maxLen; omega) (by omega) (by simp) ?_; intro v1 w1 hp; have HP := Lib.hid hp; clear hp)
  go_ret
  obtain ⟨h1, h2, h3⟩ := HP.out
  rw [Nat.zero_add, List.nil_append] at h1
  exact ⟨v1, rfl, by rw [HL.out]; exact h1, Fr.alloc_grown h2 (fun k hk => by have : w.heap.size = k := by simpa [Value.ownBlock] using hk
                                                                              omega)⟩
end Go.Proofs.Ytcpgfcpmjalacaa
