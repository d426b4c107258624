/- Tables of the reference: which names they have, and what their methods do. -/
import Derived.Test.YtcpgfcpmjalacaaRmay
import Derived.Test.YtcpgfcpmjalacaaSame
namespace Go.Proofs.Ytcpgfcpmjalacaa
open Go.RowKit

/-- the reference's table at block B has the names L, and lies in the blocks F -/
structure RTab (w : World) (F : Nat → Prop) (B : Nat) (L : Nat → List ByteArray) : Prop where
  old : ∀ b, F b → b < w.heap.size
  inB : F B
  lies : ∃ (arr : Array Value) (vs : Nat → Value), w.heap[B]? = some (.cells arr 33 (0, 0)) ∧ arr.size = 6 ∧ ∀ k, k < 6 → arr[k]? = some (vs k) ∧ Reads w (fun g => F g ∧ g ≠ B) (vs k) (L k)

theorem RTab.same {w w' : World} {F G : Nat → Prop} {B : Nat} {L : Nat → List ByteArray} (h : RTab w F B L) (hf : Fr G w w') (hd : ∀ k, F k → G k → False) : RTab w' F B L := by
  obtain ⟨arr, vs, hb, hs, hk⟩ := h.lies
  exact ⟨fun b hb => Nat.lt_of_lt_of_le (h.old b hb) hf.size, h.inB, arr, vs, (hf.block B (h.old B h.inB) (fun hg => hd B h.inB hg)).trans hb, hs,
    fun k hk6 => ⟨(hk k hk6).1, (hk k hk6).2.same hf (fun g hg hG => hd g hg.1 hG)⟩⟩

theorem RTab.row {w : World} {F : Nat → Prop} {B : Nat} {L : Nat → List ByteArray} (h : RTab w F B L) {k : Nat} (hk : k < 6) :
    ∃ ao c, w.cell? ⟨B, k, none⟩ = some (.slice ao (L k).length c) ∧ Reads w (fun g => F g ∧ g ≠ B) (.slice ao (L k).length c) (L k) := by
  obtain ⟨arr, vs, hb, hs, hk'⟩ := h.lies
  obtain ⟨h1, h2⟩ := hk' k hk
  have h3 := h2
  obtain ⟨ao, c, hv, _⟩ := h2
  rw [hv] at h1 h3
  exact ⟨ao, c, (cell_arr hb k).trans h1, h3⟩

set_option maxHeartbeats 400000 in
theorem rof_any (k n : Int) (w : World) (h0 : 0 ≤ k) (h1 : k ≤ 5) (h2 : 0 ≤ n) (h3 : n ≤ 8191) :
    Calls Try.prog 32 #[.int .i64 k, .int .i64 n] w fun e w' => e = .returned (.int .u16 (k * 8192 + n)) ∧ w = w' := by
  go_enter Try.func32, Try.ntmps32
  go_wp2
  go_ret
  exact ⟨rfl, rfl⟩

set_option maxHeartbeats 400000 in
theorem rkind_any (a : Int) (w : World) (h0 : 0 ≤ a) (h1 : a ≤ 65535) :
    Calls Try.prog 23 #[.int .u16 a] w fun e w' => e = .returned (.int .i64 (a / 8192)) ∧ w = w' := by
  have e : Hid ((a - a % 8192) / 8192 = a / 8192) := by show _ = _; omega
  go_enter Try.func23, Try.ntmps23
  go_wp2
  go_ret
  exact ⟨ret_int e.out, rfl⟩

set_option maxHeartbeats 400000 in
theorem rnumber_any (a : Int) (w : World) (h0 : 0 ≤ a) (h1 : a ≤ 65535) :
    Calls Try.prog 25 #[.int .u16 a] w fun e w' => e = .returned (.int .i64 (a % 8192)) ∧ w = w' := by
  go_enter Try.func25, Try.ntmps25
  go_wp2
  go_ret
  exact ⟨rfl, rfl⟩

theorem posOf_at {l : List ByteArray} {s : ByteArray} {k : Nat} (hk : l[k]? = some s) (hno : ∀ i, i < k → l[i]? ≠ some s) : posOf l s = k + 1 := by
  rcases hp : posOf l s with _ | n
  · exact absurd (List.mem_of_getElem? hk) (posOf_none.1 hp)
  · have hn := posOf_get hp
    rcases Nat.lt_trichotomy n k with h | h | h
    · exact absurd hn (hno n h)
    · rw [h]
    · exfalso
      clear hno
      have : ∀ (l : List ByteArray) (k n : Nat), l[k]? = some s → k < n → posOf l s = n + 1 → False := by
        intro l
        induction l with
        | nil => intro k n hk; simp at hk
        | cons x r ih =>
          intro k n hk hlt hp
          unfold posOf at hp
          split at hp
          · omega
          · rename_i hx
            split at hp
            · omega
            · rename_i m hm
              cases k with
              | zero => simp at hk; exact hx hk
              | succ k => exact ih k m (by simpa using hk) (by omega) hm
      exact this l k n hk h hp

/-- what Find tells -/
def foundV (kind : Int) (n : Nat) : Value := .tuple #[.int .u16 (if n = 0 then 0 else kind * 8192 + n), .bool (decide (n ≠ 0))]

set_option maxHeartbeats 2000000 in
theorem rfind_any {w : World} {F : Nat → Prop} {B : Nat} {L : Nat → List ByteArray} (h : RTab w F B L) (hfew : ∀ k, (L k).length ≤ 4000) (kind : Int) (s : ByteArray) :
    Calls Try.prog 13 #[.pointer (some ⟨B, 0, none⟩), .int .i64 kind, .string s] w fun e w' =>
      e = .returned (foundV kind (numS L kind s)) ∧ w = w' := by
  by_cases hk : 1 ≤ kind ∧ kind ≤ 5
  rotate_left
  · have e0 : numS L kind s = 0 := by unfold numS; rw [if_neg hk]
    rw [e0]
    clear e0 h hfew
    by_cases h1 : kind < 1
    · clear hk
      go_enter Try.func13, Try.ntmps13
      go_wp2
      go_ret2
      exact ⟨rfl, rfl⟩
    · have h2 : 5 < kind := by omega
      clear hk
      go_enter Try.func13, Try.ntmps13
      go_wp2
      go_ret2
      exact ⟨rfl, rfl⟩
  obtain ⟨k, rfl⟩ := Int.eq_ofNat_of_zero_le (show 0 ≤ kind by omega)
  have hk1 : 1 ≤ k := by omega
  have hk5 : k ≤ 5 := by omega
  have hki : (k : Int) < 6 := by omega
  have hkn : ¬ (k : Int) < 1 := by omega
  have hkm : ¬ 5 < (k : Int) := by omega
  obtain ⟨ao, c, hc, hrd⟩ := h.row (show k < 6 by omega)
  have e0 : numS L (k : Int) s = posOf (L k) s := by unfold numS; rw [if_pos hk]; simp
  rw [e0]
  have hf := hfew k
  generalize hl : L k = l at *
  obtain ⟨ao', c', he, hcell⟩ := hrd
  cases he
  have HC := Lib.hid hcell
  clear hcell e0 hk h hfew hl
  go_enter Try.func13, Try.ntmps13
  go_wp2
  go_loop [8] (fun i => ∃ j : Nat, j ≤ l.length ∧ i = .int .i64 j ∧ Hid (∀ i, i < j → l[i]? ≠ some s)) (fun i => l.length - (intOf i).toNat)
  case atStart => exact ⟨0, by omega, rfl, fun i hi => by omega⟩
  case round =>
    obtain ⟨j, hj, rfl, hno⟩ := hrel
    by_cases hlt : j < l.length
    · obtain ⟨t, ht⟩ : ∃ t, l[j]? = some t := ⟨_, List.getElem?_eq_getElem hlt⟩
      obtain ⟨g, off, rfl, _, hcj⟩ := HC.out j t ht
      have HT := Lib.hid ht
      have hji : (j : Int) < l.length := by omega
      clear ht
      by_cases he : t = s
      · have hst : (t.toList == s.toList) = true := by simp [he]
        have HP : Hid (posOf l s = j + 1) := posOf_at (by rw [HT.out, he]) hno.out
        clear he
        go_wp2_with (go_at_call 32; refine (rof_any _ _ _ (by omega) (by omega) (by omega) (by omega)).mono ?_; rintro e w' ⟨rfl, rfl⟩)
        go_ret2
        exact ⟨by rw [HP.out]; simp [foundV], rfl⟩
      · have hst : (t.toList == s.toList) = false := by rw [beq_eq_false_iff_ne]; exact fun h => he (toList_inj h)
        have HNO : Hid (∀ i, i < j + 1 → l[i]? ≠ some s) := by
          intro i hi
          rcases Nat.lt_or_ge i j with hi' | hi'
          · exact hno.out i hi'
          · obtain rfl : i = j := by omega
            rw [HT.out]; simpa using he
        clear he
        go_wp2
        go_round
        case rel => exact ⟨j + 1, by omega, by go_num, HNO⟩
        case measure => simp [intOf]; omega
    · have hji : ¬ (j : Int) < l.length := by omega
      have HP : Hid (posOf l s = 0) := by
        show posOf l s = 0
        rw [posOf_none]
        intro hm
        obtain ⟨i, hi⟩ := List.mem_iff_getElem?.1 hm
        exact hno.out i (by have := (List.getElem?_eq_some_iff.1 hi).1; omega) hi
      go_wp2
      go_ret2
      exact ⟨by rw [HP.out]; simp [foundV], rfl⟩
end Go.Proofs.Ytcpgfcpmjalacaa
