/- New, Name and All of atom's tables. -/
import Derived.Test.YtcpgfcpmjalacaaPut
namespace Go.Proofs.Ytcpgfcpmjalacaa
open Go.RowKit

/-- no names -/
def noL (_ : Nat) : List ByteArray := []

theorem Tab.made (w : World) : Tab ((w.alloc (.map #[] 0)).alloc (.cells #[.slice none 0 0, .slice none 0 0, .slice none 0 0, .slice none 0 0, .slice none 0 0, .slice none 0 0, .map (some w.heap.size)] 64))
    (fun k => w.heap.size ≤ k ∧ k < w.heap.size + 2) (w.heap.size + 1) noL := by
  refine ⟨fun k => by simp [noL], fun k => by simp [noL], fun k s h => by simp [noL] at h, rfl, fun b h => by simpa using h.2, by omega, w.heap.size, [], fun _ => .slice none 0 0,
    #[.slice none 0 0, .slice none 0 0, .slice none 0 0, .slice none 0 0, .slice none 0 0, .slice none 0 0, .map (some w.heap.size)], by omega, by omega, ?_, rfl, ?_, rfl, ?_, ?_, ?_, ?_, ?_, ?_⟩
  · have := heap_alloc_new (w.alloc (.map #[] 0)) (.cells #[.slice none 0 0, .slice none 0 0, .slice none 0 0, .slice none 0 0, .slice none 0 0, .slice none 0 0, .map (some w.heap.size)] 64)
    simpa using this
  · intro k hk
    match k, hk with
    | 0, _ => rfl
    | 1, _ => rfl
    | 2, _ => rfl
    | 3, _ => rfl
    | 4, _ => rfl
    | 5, _ => rfl
  · exact (MapIs.made w).same (heap_alloc_old _ _ (by simp))
  · intro k _; exact World.ownsRow_nil _ _ _ _
  · intro k _ g hg; cases hg
  · intro j k _ _ _ g hg; cases hg
  · intro p hp; cases hp
  · intro k i s _ _ h; simp [noL] at h

/-- what New leaves -/
def NewPost (w : World) (e : Ending) (w' : World) : Prop :=
  ∃ B, w.heap.size ≤ B ∧ e = .returned (.pointer (some ⟨B, 0, none⟩)) ∧ Fr (fun _ => False) w w' ∧ Tab w' (grown (fun _ => False) w w') B noL

theorem new_tab (w : World) : Calls Try.prog 11 #[] w (NewPost w) := by
  refine (new_any w).mono ?_
  rintro e w' ⟨rfl, rfl⟩
  refine ⟨_, Nat.le_succ _, rfl, (Fr.of_alloc _ _ _).trans (Fr.of_alloc _ _ _), ?_⟩
  have h := Tab.made w
  have e : grown (fun _ => False) w ((w.alloc (.map #[] 0)).alloc (.cells #[.slice none 0 0, .slice none 0 0, .slice none 0 0, .slice none 0 0, .slice none 0 0, .slice none 0 0, .map (some w.heap.size)] 64)) = fun k => w.heap.size ≤ k ∧ k < w.heap.size + 2 := by
    funext k; simp [grown]
  rw [e]; exact h

/-- the name of an atom -/
def nameOf (L : Nat → List ByteArray) (a : Int) : Option ByteArray :=
  if a = 1 then some ⟨#[68]⟩ else if 1 ≤ a / 8192 ∧ a / 8192 ≤ 5 ∧ 1 ≤ a % 8192 then (L (a / 8192).toNat)[(a % 8192).toNat - 1]? else none

def nameV (o : Option ByteArray) : Value := .tuple #[.string (o.getD ⟨#[]⟩), .bool o.isSome]

theorem elem_of_row {w : World} {ao : Option Addr} {n c : Nat} {l : List ByteArray} (h : w.ownsRow 0 9 1 (.slice ao n c) n (l.map Value.string)) {i : Nat} {s : ByteArray} (hi : l[i]? = some s) :
    ∃ g, ao = some ⟨g, 0, none⟩ ∧ w.cell? ⟨g, i, none⟩ = some (.string s) := by
  rcases h.2 with ⟨hv, h0⟩ | ⟨g, cap, cur, hv, _⟩
  · have := h.1; simp [h0] at this; subst this; simp at hi
  · obtain ⟨rfl, _, _⟩ : ao = some ⟨g, 0, none⟩ ∧ True ∧ True := by cases hv; exact ⟨rfl, trivial, trivial⟩
    refine ⟨g, rfl, ?_⟩
    have := h.cells (g := g) rfl i (.string s) (by simp [hi])
    have e : ((⟨g, 0, none⟩ : Addr).add i) = ⟨g, i, none⟩ := by unfold Addr.add; split <;> simp_all
    rw [e] at this; exact this

theorem quiet_sw {P : Program} {f : FuncId} {args : Array Value} {w : World} {n : Nat} {v : Value}
    (h : Calls P f args (w.drewN n) fun e w' => e = .returned v ∧ w.drewN n = w') : Calls P f args (w.drewN n) fun e w'' => e = .returned v ∧ ∃ m, w'' = w.drewN m :=
  h.mono fun _ _ ⟨he, hm⟩ => ⟨he, n, hm.symm⟩

set_option maxHeartbeats 1000000 in
theorem name_any {w : World} {F : Nat → Prop} {B : Nat} {L : Nat → List ByteArray} (h : Tab w F B L) (a : Int) (h0 : 0 ≤ a) (h1 : a ≤ 65535) :
    Calls Try.prog 16 #[.pointer (some ⟨B, 0, none⟩), .int .u16 a] w fun e w' => e = .returned (nameV (nameOf L a)) ∧ ∃ n, w' = w.drewN n := by
  by_cases ha : a = 1
  · subst ha
    go_enter Try.func16, Try.ntmps16
    go_wp2
    go_ret2
    exact ⟨rfl, 0, rfl⟩
  have ha' : (a == 1) = false := by simpa using ha
  by_cases hk : 1 ≤ a / 8192 ∧ a / 8192 ≤ 5
  · obtain ⟨k, hkd⟩ := Int.eq_ofNat_of_zero_le (show 0 ≤ a / 8192 by omega)
    obtain ⟨n, hnd⟩ := Int.eq_ofNat_of_zero_le (show 0 ≤ a % 8192 by omega)
    obtain ⟨ao, c, hc, hrow, _⟩ := h.row (show k < 6 by omega)
    have hfew := h.few k
    have hk1 : 1 ≤ k := by omega
    have hk5 : k ≤ 5 := by omega
    have hn9 : n ≤ 8191 := by omega
    have en : nameOf L a = if 1 ≤ n then (L k)[n - 1]? else none := by
      unfold nameOf
      rw [if_neg ha, hkd, hnd]
      by_cases h1n : 1 ≤ n
      · rw [if_pos (by omega), if_pos h1n]; simp
      · rw [if_neg (by omega), if_neg h1n]
    rw [en]
    have HK : Hid (∀ w, Calls Try.prog 22 #[.int .u16 a] w fun e w' => e = .returned (.int .i64 k) ∧ w = w') := fun w => by
      have := kind_any a w h0 h1; rw [hkd] at this; exact this
    have HN : Hid (∀ w, Calls Try.prog 24 #[.int .u16 a] w fun e w' => e = .returned (.int .i64 n) ∧ w = w') := fun w => by
      have := number_any a w h0 h1; rw [hnd] at this; exact this
    have HR : Hid (∀ nq, Calls Try.prog 34 #[.pointer (some ⟨B, 0, none⟩), .int .i64 k] (w.drewN nq) fun e w' => e = .returned (.slice ao (L k).length c) ∧ w.drewN nq = w') := fun nq =>
      row_yes k B _ _ hk1 hk5 (by simpa using hc)
    have hel := fun (i : Nat) (s : ByteArray) => elem_of_row (w := w) hrow (i := i) (s := s)
    by_cases h1n : 1 ≤ n
    · by_cases hlt : n ≤ (L k).length
      · obtain ⟨s, hs⟩ : ∃ s, (L k)[n - 1]? = some s := ⟨_, List.getElem?_eq_getElem (by omega)⟩
        obtain ⟨g, rfl, hcell⟩ := hel _ _ hs
        rw [if_pos h1n, hs]
        obtain ⟨j, rfl⟩ : ∃ j, n = j + 1 := ⟨n - 1, by omega⟩
        rw [show j + 1 - 1 = j by omega] at hcell
        generalize (L k).length = len at *
        have hjl : ((j + 1 : Nat) : Int) ≤ len := by omega
        clear hkd hnd en hk ha h hrow hel hs
        go_enter Try.func16, Try.ntmps16
        go_wp2
        go_quiet (first | (go_at_call 22; exact quiet_sw (HK.out _)) | (go_at_call 24; exact quiet_sw (HN.out _)) | (go_at_call 34; exact quiet_sw (HR.out _)))
        go_wp2
        go_ret2
        exact ⟨rfl, _, rfl⟩
      · have e0 : (if 1 ≤ n then (L k)[n - 1]? else none) = none := by
          rw [if_pos h1n, List.getElem?_eq_none (by omega)]
        rw [e0]
        generalize (L k).length = len at *
        have hjl : ¬ ((n : Nat) : Int) ≤ len := by omega
        clear hkd hnd en hk ha h hrow hel e0
        go_enter Try.func16, Try.ntmps16
        go_wp2
        go_quiet (first | (go_at_call 22; exact quiet_sw (HK.out _)) | (go_at_call 24; exact quiet_sw (HN.out _)) | (go_at_call 34; exact quiet_sw (HR.out _)))
        go_wp2
        go_ret2
        exact ⟨rfl, _, rfl⟩
    · have e0 : (if 1 ≤ n then (L k)[n - 1]? else none) = none := if_neg h1n
      rw [e0]
      obtain rfl : n = 0 := by omega
      generalize (L k).length = len at *
      clear hkd hnd en hk ha h hrow hel e0
      go_enter Try.func16, Try.ntmps16
      go_wp2
      go_quiet (first | (go_at_call 22; exact quiet_sw (HK.out _)) | (go_at_call 24; exact quiet_sw (HN.out _)) | (go_at_call 34; exact quiet_sw (HR.out _)))
      go_wp2
      go_ret2
      exact ⟨rfl, _, rfl⟩
  · have en : nameOf L a = none := by
      unfold nameOf; rw [if_neg ha, if_neg (fun hh => hk ⟨hh.1, hh.2.1⟩)]
    rw [en]
    have HK : Hid (∀ w, Calls Try.prog 22 #[.int .u16 a] w fun e w' => e = .returned (.int .i64 (a / 8192)) ∧ w = w') := fun w => kind_any a w h0 h1
    have HN : Hid (∀ w, Calls Try.prog 24 #[.int .u16 a] w fun e w' => e = .returned (.int .i64 (a % 8192)) ∧ w = w') := fun w => number_any a w h0 h1
    have HR : Hid (∀ nq, Calls Try.prog 34 #[.pointer (some ⟨B, 0, none⟩), .int .i64 (a / 8192)] (w.drewN nq) fun e w' => e = .returned (.slice none 0 0) ∧ w.drewN nq = w') := fun nq =>
      row_no _ B _ hk
    have hm0 : 0 ≤ a % 8192 := by omega
    generalize a / 8192 = k at *
    generalize a % 8192 = n at *
    clear en hk ha h
    by_cases h1n : n < 1
    · go_enter Try.func16, Try.ntmps16
      go_wp2
      go_quiet (first | (go_at_call 22; exact quiet_sw (HK.out _)) | (go_at_call 24; exact quiet_sw (HN.out _)) | (go_at_call 34; exact quiet_sw (HR.out _)))
      go_wp2
      go_ret2
      exact ⟨rfl, _, rfl⟩
    · have hn1 : 1 ≤ n := by omega
      have hn0 : 0 < n := by omega
      go_enter Try.func16, Try.ntmps16
      go_wp2
      go_quiet (first | (go_at_call 22; exact quiet_sw (HK.out _)) | (go_at_call 24; exact quiet_sw (HN.out _)) | (go_at_call 34; exact quiet_sw (HR.out _)))
      go_wp2
      go_ret2
      exact ⟨rfl, _, rfl⟩
end Go.Proofs.Ytcpgfcpmjalacaa
