/- What the methods of atom's tables do that only read. -/
import Derived.Test.YtcpgfcpmjalacaaTabs
import Derived.Deep.QuietTactic
import Derived.BigQuiet
namespace Go.Proofs.Ytcpgfcpmjalacaa
open Go.RowKit

/-- a row of a table: where it lies, and what it holds -/
theorem Tab.row {w : World} {F : Nat → Prop} {B : Nat} {L : Nat → List ByteArray} (h : Tab w F B L) {k : Nat} (hk : k < 6) :
    ∃ ao c, w.cell? ⟨B, k, none⟩ = some (.slice ao (L k).length c) ∧ w.ownsRow 0 9 1 (.slice ao (L k).length c) (L k).length ((L k).map Value.string) ∧
      (∀ g, (Value.slice ao (L k).length c).ownBlock = some g → F g ∧ g ≠ B) := by
  obtain ⟨m, es, vs, arr, hm, hBm, hb, hsz, hkk, h6, hmap, hrow, hown, hap, h1, h2⟩ := h.lies
  have hr := hrow k hk
  have ho := hown k hk
  have hc := (cell_arr hb k).trans (hkk k hk)
  rcases hr.2 with ⟨hn, h0⟩ | ⟨g, cap, cur, hv, _⟩
  · refine ⟨none, 0, ?_, ?_, ?_⟩
    · rw [hc, hn, h0]
    · have := hr; rw [hn] at this; rw [h0] at this ⊢; exact this
    · intro g hg; cases hg
  · rw [hv] at hr hc ho
    exact ⟨_, _, hc, hr, fun g hg => ⟨(ho g hg).1, (ho g hg).2.1⟩⟩

def lenS (L : Nat → List ByteArray) (kind : Int) : Nat := if 1 ≤ kind ∧ kind ≤ 5 then (L kind.toNat).length else 0

set_option maxHeartbeats 400000 in
theorem len_any {w : World} {F : Nat → Prop} {B : Nat} {L : Nat → List ByteArray} (h : Tab w F B L) (kind : Int) :
    Calls Try.prog 21 #[.pointer (some ⟨B, 0, none⟩), .int .i64 kind] w fun e w' => e = .returned (.int .i64 (lenS L kind)) ∧ w = w' := by
  by_cases hk : 1 ≤ kind ∧ kind ≤ 5
  · obtain ⟨k, rfl⟩ := Int.eq_ofNat_of_zero_le (show 0 ≤ kind by omega)
    have e0 : lenS L (k : Int) = (L k).length := by unfold lenS; rw [if_pos hk]; simp
    rw [e0]
    obtain ⟨ao, c, hc, _, _⟩ := h.row (show k < 6 by omega)
    generalize (L k).length = n at hc
    have hk1 : 1 ≤ k := by omega
    have hk5 : k ≤ 5 := by omega
    clear hk e0 h
    go_enter Try.func21, Try.ntmps21
    go_wp2_with (go_at_call 34; refine (row_yes k B _ _ hk1 hk5 hc).mono ?_; rintro e w' ⟨rfl, rfl⟩)
    go_ret
    exact ⟨rfl, rfl⟩
  · have e0 : lenS L kind = 0 := by unfold lenS; rw [if_neg hk]
    rw [e0]
    have H := Lib.hid hk
    clear hk e0 h
    go_enter Try.func21, Try.ntmps21
    go_wp2_with (go_at_call 34; refine (row_no _ B _ H.out).mono ?_; rintro e w' ⟨rfl, rfl⟩)
    go_ret
    exact ⟨rfl, rfl⟩

set_option maxHeartbeats 400000 in
theorem find_any {w : World} {F : Nat → Prop} {B : Nat} {L : Nat → List ByteArray} (h : Tab w F B L) (kind : Int) (s : ByteArray) (hk : (Lit.int .i64 kind).wf = true) (hs : s.size ≤ maxLen) :
    Calls Try.prog 12 #[.pointer (some ⟨B, 0, none⟩), .int .i64 kind, .string s] w fun e w' =>
      e = .returned (.tuple #[.int .u16 (if numS L kind s = 0 then 0 else kind * 8192 + numS L kind s), .bool (decide (numS L kind s ≠ 0))]) ∧ w = w' := by
  have HC := Lib.hid (num_any h kind s hk hs)
  have hle : numS L kind s ≤ 4000 := by
    unfold numS; split
    · exact Nat.le_trans posOf_le (h.few _)
    · omega
  have hkk : numS L kind s ≠ 0 → 1 ≤ kind ∧ kind ≤ 5 := by
    unfold numS; split
    · intro _; assumption
    · intro h; exact absurd rfl h
  generalize numS L kind s = n at *
  clear h hk hs
  by_cases h0 : n = 0
  · subst h0
    clear hkk hle
    go_enter Try.func12, Try.ntmps12
    go_wp2_with (go_at_call 30; refine HC.out.mono ?_; rintro e w' ⟨rfl, rfl⟩)
    go_ret2
    exact ⟨rfl, rfl⟩
  · obtain ⟨h1, h5⟩ := hkk h0
    have hn0 : ((n : Int) == 0) = false := by simpa using h0
    have e1 : (if n = 0 then (0 : Int) else kind * 8192 + n) = kind * 8192 + n := if_neg h0
    have e2 : decide (n ≠ 0) = true := by simpa using h0
    rw [e1, e2]
    clear hkk e1 e2 h0
    go_enter Try.func12, Try.ntmps12
    go_wp2_with (first | (go_at_call 30; refine HC.out.mono ?_; rintro e w' ⟨rfl, rfl⟩) | (go_at_call 31; refine (compose_any _ _ _ (by omega) (by omega) (by omega) (by omega)).mono ?_; rintro e w' ⟨rfl, rfl⟩))
    go_ret2
    exact ⟨rfl, rfl⟩
end Go.Proofs.Ytcpgfcpmjalacaa
