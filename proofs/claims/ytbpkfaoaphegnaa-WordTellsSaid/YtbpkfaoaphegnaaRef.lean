/- May and Less of the reference. -/
import Derived.Test.YtbpkfaoaphegnaaTell
namespace Go.Proofs.Ytbpkfaoaphegnaa
set_option linter.unusedVariables false
open Go.RowKit

set_option maxHeartbeats 2000000 in
theorem rmay_any (s : ByteArray) (w : World) (hs : s.size ≤ 100000) :
    Calls Try.prog 14 #[.string s] w (KeptPost (.bool (mayS s)) w) := by
  obtain ⟨n, hn⟩ : ∃ n, n = s.size / 2 := ⟨_, rfl⟩
  have HL : Hid ((cellsOf (atoms (bs s))).length = n) := Lib.hid (by simp [cellsOf, atoms_len, bs_len, hn])
  have hnb : n ≤ 50000 := by omega
  have HN := Lib.hid hn
  clear hn
  go_enter Try.func14, Try.ntmps14
  go_wp2_with fail
  refine (ratoms_any s _ hs).mono ?_
  rintro e w1 ⟨v, rfl, hrow, hk⟩
  rw [HL.out] at hrow
  obtain ⟨ao, c, rfl, _, hx⟩ := Reads.of_row hrow
  rw [HL.out]
  have HX := Lib.hid hx
  have HK := Lib.hid hk
  clear hrow hx hk
  go_wp2
  go_loop [4] (fun i => ∃ k : Nat, k ≤ n ∧ i = .int .i64 k ∧ Hid (∀ j : Nat, j < k → atS s j ≠ 0)) (fun i => n - (intOf i).toNat)
  case atStart => exact ⟨0, by omega, rfl, Lib.hid (fun i hi => by omega)⟩
  case round =>
    obtain ⟨k, hk, rfl, hall⟩ := hrel
    by_cases hlt : k < n
    · have hk1 : (k : Int) < n := by omega
      obtain ⟨z, hz⟩ : ∃ z, (atoms (bs s))[k]? = some z := ⟨_, List.getElem?_eq_getElem (by rw [atoms_len, bs_len]; have := HN.out; omega)⟩
      obtain ⟨g, off, rfl, _, hcell⟩ := HX.out k _ (cells_get hz)
      have HZ := Lib.hid (atS_get hz)
      clear hz
      by_cases hz0 : z = 0
      · have HF : Hid (mayS s = false) := Lib.hid (may_false (.inr (.inr (.inr ⟨k, by rw [← HN.out]; exact hlt, by rw [HZ.out, hz0]⟩))))
        have hz1 : (z == 0) = true := by simp [hz0]
        clear hz0
        go_wp2
        go_ret
        exact ⟨ret_bool HF.out.symm, HK.out⟩
      · have hz1 : (z == 0) = false := by simp [hz0]
        have HZ2 : Hid (∀ j : Nat, j < k + 1 → atS s j ≠ 0) := Lib.hid (fun j hj => by
          rcases Nat.lt_or_ge j k with h | h
          · exact hall.out j h
          · obtain rfl : j = k := by omega
            rw [HZ.out]; exact hz0)
        clear hz0
        go_wp2
        go_round
        case rel => exact ⟨k + 1, by omega, by go_num, HZ2⟩
        case measure => simp [intOf]; omega
    · have hk1 : ¬ (k : Int) < n := by omega
      have hall2 : ∀ j : Nat, j < s.size / 2 → atS s j ≠ 0 := fun j hj => hall.out j (by have := HN.out; omega)
      cases ht : tornB s
      · have ht1 : ((s.size : Int) % 2 == 0) = true := by have := tornB_false ht; rw [beq_iff_eq]; omega
        by_cases h0 : 1 ≤ n
        · have h1 : decide (1 ≤ (n : Int)) = true := by simp; omega
          have HF : Hid (mayS s = decide ((n : Int) ≤ 8)) := Lib.hid (by
            by_cases h8 : n ≤ 8
            · rw [may_true ht (by rw [← HN.out]; exact h0) (by rw [← HN.out]; exact h8) hall2]; simp; omega
            · rw [may_false (.inr (.inr (.inl (by rw [← HN.out]; omega))))]; simp; omega)
          clear h0 hall2
          go_wp2
          go_ret
          exact ⟨ret_bool HF.out.symm, HK.out⟩
        · have h1 : decide (1 ≤ (n : Int)) = false := by simp; omega
          have HF : Hid (mayS s = false) := Lib.hid (may_false (.inr (.inl (by rw [← HN.out]; omega))))
          clear h0 hall2
          go_wp2
          go_ret
          exact ⟨ret_bool HF.out.symm, HK.out⟩
      · have ht1 : ((s.size : Int) % 2 == 0) = false := by have := tornB_true ht; rw [beq_eq_false_iff_ne]; omega
        have HF : Hid (mayS s = false) := Lib.hid (may_false (.inl ht))
        clear hall2
        go_wp2
        go_ret
        exact ⟨ret_bool HF.out.symm, HK.out⟩

theorem less_same : ∀ (l : List UInt8), Op.bytesLess l l = false
  | [] => by simp [Op.bytesLess]
  | a :: r => by simp [Op.bytesLess, less_same r]
theorem less_at : ∀ (k : Nat) (l m : List UInt8) (x y : UInt8), (∀ j, j < k → l[j]? = m[j]?) → l[k]? = some x → m[k]? = some y → x ≠ y → Op.bytesLess l m = decide ((x.toNat : Int) < (y.toNat : Int))
  | 0, a :: r, b :: t, x, y, _, hx, hy, hne => by
    simp at hx hy
    subst hx hy
    have : (a == b) = false := by simp [hne]
    simp [Op.bytesLess, this, UInt8.lt_iff_toNat_lt]
  | k + 1, a :: r, b :: t, x, y, h, hx, hy, hne => by
    have h0 := h 0 (by omega)
    simp at h0 hx hy
    subst h0
    have ih := less_at k r t x y (fun j hj => by simpa using h (j + 1) (by omega)) hx hy hne
    simp [Op.bytesLess, ih]
  | _, [], _, _, _, _, h, _, _ => by simp at h
  | _, _ :: _, [], _, _, _, _, h, _ => by simp at h

theorem run_byteI (s : ByteArray) (k : Nat) (h : k < s.size) (wx : World) :
    (Instr.index 22 (.string s) (.int .i64 (k : Int))).run Try.prog wx = .ok (.int .u8 ((s[k]).toNat : Int)) wx := run_byte s k h _ rfl wx

set_option maxHeartbeats 2000000 in
theorem rless_any (a b : ByteArray) (w : World) (ha : a.size ≤ maxLen) (hb : b.size ≤ maxLen) :
    Calls Try.prog 24 #[.string a, .string b] w (DrewPost (.bool (lessS a b)) w) := by
  unfold maxLen at ha hb
  by_cases h : a.size = b.size
  · have HA : Hid (lessS a b = Op.bytesLess (bs a) (bs b)) := Lib.hid (by unfold lessS; rw [if_pos h])
    have h1 : ((a.size : Int) != (b.size : Int)) = false := by simp [h]
    have HE := Lib.hid h
    have he := Nat.le_of_eq h
    clear h
    go_enter Try.func24, Try.ntmps24
    go_wp2
    clear h1
    go_loopw [5] (fun i wr => ∃ k m : Nat, k ≤ a.size ∧ i = .int .i64 k ∧ wr = w.drewN m ∧ Hid (∀ j, j < k → (bs a)[j]? = (bs b)[j]?)) (fun i _ => a.size - (intOf i).toNat)
    case atStart => exact ⟨0, 0, by omega, rfl, rfl, Lib.hid (fun i hi => by omega)⟩
    case round =>
      obtain ⟨k, m, hk, rfl, rfl, hall⟩ := hrel
      by_cases hlt : k < a.size
      · have h1 : (k : Int) < a.size := by omega
        have hlb : k < b.size := by omega
        have x1 := fun wx => run_byteI a k hlt wx
        have x2 := fun wx => run_byteI b k hlb wx
        have G1 := Lib.hid (bs_get a k hlt)
        have G2 := Lib.hid (bs_get b k hlb)
        generalize a[k] = x at *
        generalize b[k] = y at *
        by_cases hxy : x = y
        · have hn : ((x.toNat : Int) != (y.toNat : Int)) = false := by simp [hxy]
          have HQ : Hid (∀ j, j < k + 1 → (bs a)[j]? = (bs b)[j]?) := Lib.hid (fun j hj => by
            rcases Nat.lt_or_ge j k with h' | h'
            · exact hall.out j h'
            · obtain rfl : j = k := by omega
              rw [G1.out, G2.out, hxy])
          clear hxy
          go_wp2
          go_quiet (fail)
          go_wp2
          go_roundw
          case rel => exact ⟨k + 1, _, by omega, by go_num, rfl, HQ⟩
          case measure => simp [intOf]; omega
        · have hn : ((x.toNat : Int) != (y.toNat : Int)) = true := by
            simp; intro e; exact hxy (UInt8.toNat_inj.1 (by omega))
          have HF := Lib.hid (less_at k _ _ x y hall.out G1.out G2.out hxy)
          clear hxy
          go_wp2
          go_quiet (fail)
          go_wp2
          go_quiet (fail)
          go_wp2
          go_ret
          rename_i n1
          exact ⟨ret_bool (by rw [HA.out, HF.out, Bool.eq_iff_iff]; simp), m + n1 + nq, by simp⟩
      · have HF : Hid (bs a = bs b) := Lib.hid (eq_of_take (by rw [bs_len, bs_len]; exact HE.out) (by rw [bs_len]; omega : k = _) hall.out)
        have h1 : ¬ (k : Int) < a.size := by omega
        go_wp2
        go_ret
        exact ⟨ret_bool (by rw [HA.out, HF.out, less_same]), _, rfl⟩
  · have HA : Hid (lessS a b = decide (a.size < b.size)) := Lib.hid (by unfold lessS; rw [if_neg h])
    have h1 : ((a.size : Int) != (b.size : Int)) = true := by simp; omega
    clear h
    go_enter Try.func24, Try.ntmps24
    go_wp2
    go_ret
    exact ⟨ret_bool (by rw [HA.out]), 0, rfl⟩
end Go.Proofs.Ytbpkfaoaphegnaa
