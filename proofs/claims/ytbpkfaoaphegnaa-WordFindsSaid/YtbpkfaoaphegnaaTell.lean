/- same, May, At and Less: of package word, of the reference, of the laws. -/
import Derived.Test.YtbpkfaoaphegnaaAtoms
namespace Go.Proofs.Ytbpkfaoaphegnaa
set_option linter.unusedVariables false
open Go.RowKit

/-- what the world is behind a call that turns nothing that was there -/
def KeptPost (v : Value) (w : World) (e : Ending) (w' : World) : Prop := e = .returned v ∧ Kept w w'

theorem DrewPost.kept {v : Value} {w w' : World} {e : Ending} (h : DrewPost v w e w') : KeptPost v w e w' := by
  obtain ⟨h1, n, rfl⟩ := h
  exact ⟨h1, Fr.of_drewN _ _ _⟩
theorem at_kept (s : ByteArray) (i : Int) (w : World) (hs : s.size ≤ maxLen) : Calls Try.prog 17 #[.string s, .int .i64 i] w (KeptPost (.int .u16 (atS s i)) w) := (at_any s i w hs).mono fun _ _ h => h.kept

theorem cells_inj {l m : List Int} (h : cellsOf l = cellsOf m) : l = m := by
  unfold cellsOf at h
  exact (List.map_inj_right (fun x y h => by injection h)).1 h
theorem cells_get {l : List Int} {i : Nat} {x : Int} (h : l[i]? = some x) : (cellsOf l)[i]? = some (.int .u16 x) := by simp [cellsOf, h]

theorem eq_of_take {α : Type} {l m : List α} (hlen : l.length = m.length) {k : Nat} (hk : k = l.length) (h : ∀ i, i < k → l[i]? = m[i]?) : l = m := by
  apply List.ext_getElem?
  intro i
  rcases Nat.lt_or_ge i k with hi | hi
  · exact h i hi
  · rw [List.getElem?_eq_none (by omega), List.getElem?_eq_none (by omega)]

set_option maxHeartbeats 2000000 in
theorem same_any {w : World} {G1 G2 : Nat → Prop} {v1 v2 : Value} {l1 l2 : List Int} (h1 : Reads w G1 v1 (cellsOf l1)) (h2 : Reads w G2 v2 (cellsOf l2)) (hs1 : l1.length ≤ 100000) (hs2 : l2.length ≤ 100000) :
    Calls Try.prog 19 #[v1, v2] w (DrewPost (.bool (decide (l1 = l2))) w) := by
  obtain ⟨ao1, c1, rfl, _, hc1⟩ := h1
  obtain ⟨ao2, c2, rfl, _, hc2⟩ := h2
  have q1 : (cellsOf l1).length = l1.length := by simp [cellsOf]
  have q2 : (cellsOf l2).length = l2.length := by simp [cellsOf]
  rw [q1, q2]
  clear q1 q2
  by_cases hl : l1.length = l2.length
  · have HL := Lib.hid hl
    have H1 := Lib.hid hc1
    have H2 := Lib.hid hc2
    generalize hn : l1.length = n at *
    have HN := Lib.hid hn
    have hnn : (((n : Nat) : Int) != (n : Int)) = false := by simp
    rw [← hl]
    clear hl hn hc1 hc2
    go_enter Try.func19, Try.ntmps19
    go_wp2
    go_loopw [13] (fun i wr => ∃ k m : Nat, k ≤ n ∧ i = .int .i64 k ∧ wr = w.drewN m ∧ Hid (∀ i, i < k → l1[i]? = l2[i]?)) (fun i _ => n - (intOf i).toNat)
    case atStart => exact ⟨0, 0, by omega, rfl, rfl, Lib.hid (fun i hi => by omega)⟩
    case round =>
      obtain ⟨k, m, hk, rfl, rfl, hall⟩ := hrel
      by_cases hlt : k < n
      · obtain ⟨x, hx⟩ : ∃ x, l1[k]? = some x := ⟨_, List.getElem?_eq_getElem (by have := HN.out; omega)⟩
        obtain ⟨y, hy⟩ : ∃ y, l2[k]? = some y := ⟨_, List.getElem?_eq_getElem (by have := HL.out; omega)⟩
        obtain ⟨g1, o1, ha1, _, hd1⟩ := H1.out k _ (cells_get hx)
        obtain ⟨g2, o2, ha2, _, hd2⟩ := H2.out k _ (cells_get hy)
        subst ha1 ha2
        have HX := Lib.hid hx
        have HY := Lib.hid hy
        clear hx hy
        have hk1 : (k : Int) < n := by omega
        by_cases he : x = y
        · have hst : (x != y) = false := by simp [he]
          have HE := Lib.hid he
          clear he
          go_wp2
          go_quiet (fail)
          go_wp2
          go_roundw
          case rel =>
            refine ⟨k + 1, _, by omega, by go_num, rfl, Lib.hid (fun i hi => ?_)⟩
            rcases Nat.lt_or_ge i k with hi' | hi'
            · exact hall.out i hi'
            · obtain rfl : i = k := by omega
              rw [HX.out, HY.out, HE.out]
          case measure => simp [intOf]; omega
        · have hst : (x != y) = true := by simpa using he
          have HE : Hid (l1 ≠ l2) := Lib.hid (fun h => he (by have := HX.out; rw [h, HY.out] at this; exact (Option.some.inj this).symm))
          clear he
          go_wp2
          go_quiet (fail)
          go_wp2
          go_ret
          exact ⟨ret_bool (by simp [HE.out]), m + nq, by simp⟩
      · obtain rfl : k = n := by omega
        have HE : Hid (l1 = l2) := Lib.hid (eq_of_take (HN.out.trans HL.out) HN.out.symm hall.out)
        clear hlt
        go_wp2
        go_ret
        exact ⟨ret_bool (by simp [HE.out]), _, rfl⟩
  · have HE : Hid (l1 ≠ l2) := Lib.hid (fun h => hl (by rw [h]))
    have hnn : ((l1.length : Int) != (l2.length : Int)) = true := by rw [bne_iff_ne]; omega
    clear hl hc1 hc2
    go_enter Try.func19, Try.ntmps19
    go_wp2
    go_ret
    exact ⟨ret_bool (by simp [HE.out]), 0, rfl⟩

set_option maxHeartbeats 1000000 in
theorem rat_any (s : ByteArray) (i : Int) (w : World) (hs : s.size ≤ 100000) :
    Calls Try.prog 18 #[.string s, .int .i64 i] w (KeptPost (.int .u16 (atS s i)) w) := by
  have HL : Hid ((cellsOf (atoms (bs s))).length = s.size / 2) := Lib.hid (by simp [cellsOf, atoms_len, bs_len])
  by_cases h0 : i < 0
  · have HA := Lib.hid (atS_out (s := s) (.inl h0))
    have h2 : decide (i < 0) = true := by simpa using h0
    go_enter Try.func18, Try.ntmps18
    go_wp2_with fail
    refine (ratoms_any s _ hs).mono ?_
    rintro e w1 ⟨v, rfl, hrow, hk⟩
    obtain ⟨ao, c, rfl, _⟩ := own_slice hrow
    have HK := Lib.hid hk
    clear hk hrow
    go_wp2
    go_ret
    exact ⟨ret_int HA.out.symm, HK.out⟩
  · have h2 : decide (i < 0) = false := by simpa using h0
    obtain ⟨k, rfl⟩ : ∃ k : Nat, i = k := ⟨i.toNat, by omega⟩
    by_cases h1 : s.size / 2 ≤ k
    · have HA := Lib.hid (atS_out (s := s) (i := (k : Int)) (.inr (by omega)))
      go_enter Try.func18, Try.ntmps18
      go_wp2_with fail
      refine (ratoms_any s _ hs).mono ?_
      rintro e w1 ⟨v, rfl, hrow, hk⟩
      obtain ⟨ao, c, rfl, _⟩ := own_slice hrow
      have HK := Lib.hid hk
      have hlen : (cellsOf (atoms (bs s))).length ≤ k := by rw [HL.out]; exact h1
      clear hk hrow h1
      have h3 : ((cellsOf (atoms (bs s))).length : Int) ≤ k := by omega
      generalize (cellsOf (atoms (bs s))).length = m at *
      go_wp2
      go_ret
      exact ⟨ret_int HA.out.symm, HK.out⟩
    · go_enter Try.func18, Try.ntmps18
      go_wp2_with fail
      refine (ratoms_any s _ hs).mono ?_
      rintro e w1 ⟨v, rfl, hrow, hk⟩
      have hr := Reads.of_row hrow
      obtain ⟨ao, c, hv, _, hx⟩ := hr
      obtain ⟨x, hx0⟩ : ∃ x, (atoms (bs s))[k]? = some x := ⟨_, List.getElem?_eq_getElem (by rw [atoms_len, bs_len]; omega)⟩
      obtain ⟨g, off, rfl, _, hcell⟩ := hx k _ (cells_get hx0)
      subst hv
      have HA := Lib.hid (atS_get hx0)
      have HK := Lib.hid hk
      have hlen : k < (cellsOf (atoms (bs s))).length := by rw [HL.out]; omega
      have hlb : (cellsOf (atoms (bs s))).length ≤ 100000 := by rw [HL.out]; omega
      clear hk hrow h1 hx0 hx
      generalize (cellsOf (atoms (bs s))).length = m at *
      have h3 : (k : Int) < m := by omega
      go_wp2
      go_ret
      exact ⟨ret_int HA.out.symm, HK.out⟩

theorem all_iff {s : ByteArray} : (atoms (bs s)).all (fun x => x != 0) = true ↔ ∀ j : Nat, j < s.size / 2 → atS s j ≠ 0 := by
  rw [List.all_eq_true]
  constructor
  · intro h j hj
    obtain ⟨x, hx⟩ : ∃ x, (atoms (bs s))[j]? = some x := ⟨_, List.getElem?_eq_getElem (by rw [atoms_len, bs_len]; omega)⟩
    rw [atS_get hx]
    simpa using h x (List.mem_of_getElem? hx)
  · intro h x hx
    obtain ⟨j, hj⟩ := List.mem_iff_getElem?.1 hx
    have hl := (List.getElem?_eq_some_iff.1 hj).1
    have := h j (by rw [atoms_len, bs_len] at hl; exact hl)
    rw [atS_get hj] at this
    simpa using this

theorem may_false {s : ByteArray} (h : tornB s = true ∨ s.size / 2 = 0 ∨ 8 < s.size / 2 ∨ ∃ j : Nat, j < s.size / 2 ∧ atS s j = 0) : mayS s = false := by
  cases hm : mayS s with
  | false => rfl
  | true =>
    simp only [mayS, Bool.and_eq_true, decide_eq_true_eq, all_iff, Bool.not_eq_true'] at hm
    obtain ⟨h1, h2, h3⟩ := hm
    rcases h with h | h | h | ⟨j, hj, h⟩
    · rw [h] at h1; cases h1
    · omega
    · omega
    · exact absurd h (h3 j hj)
theorem may_true {s : ByteArray} (h1 : tornB s = false) (h2 : 1 ≤ s.size / 2) (h3 : s.size / 2 ≤ 8) (h4 : ∀ j : Nat, j < s.size / 2 → atS s j ≠ 0) : mayS s = true := by
  simp only [mayS, Bool.and_eq_true, decide_eq_true_eq, all_iff, h1]
  exact ⟨rfl, ⟨h2, h3⟩, h4⟩

set_option maxHeartbeats 2000000 in
theorem may_any (s : ByteArray) (w : World) (hs : s.size ≤ maxLen) :
    Calls Try.prog 13 #[.string s] w (KeptPost (.bool (mayS s)) w) := by
  have hs0 := hs
  unfold maxLen at hs
  cases ht : tornB s
  · obtain ⟨n, hn⟩ : ∃ n, n = s.size / 2 := ⟨_, rfl⟩
    have HN2 : Hid ((s.size : Int) / 2 = (n : Int)) := Lib.hid (by omega)
    have HN := Lib.hid hn
    clear hn
    by_cases h0 : n = 0
    · have HF : Hid (mayS s = false) := Lib.hid (may_false (.inr (.inl (by rw [← HN.out]; exact h0))))
      have h1 : ((n : Int) == 0) = true := by simp [h0]
      clear h0
      go_enter Try.func13, Try.ntmps13
      go_wp2_with (first | (go_at_call 31; refine (isTorn_any _ _ hs0).mono ?_; rintro e w' ⟨rfl, rfl⟩; rw [ht]) | (go_at_call 15; refine (len_any _ _ hs0).mono ?_; rintro e w' ⟨rfl, rfl⟩; rw [HN2.out]))
      go_ret
      exact ⟨ret_bool HF.out.symm, Fr.refl _ _⟩
    · have h1 : ((n : Int) == 0) = false := by simp [h0]
      by_cases h8 : 8 < n
      · have HF : Hid (mayS s = false) := Lib.hid (may_false (.inr (.inr (.inl (by rw [← HN.out]; exact h8)))))
        have h2 : decide (8 < (n : Int)) = true := by simp; omega
        clear h0
        go_enter Try.func13, Try.ntmps13
        go_wp2_with (first | (go_at_call 31; refine (isTorn_any _ _ hs0).mono ?_; rintro e w' ⟨rfl, rfl⟩; rw [ht]) | (go_at_call 15; refine (len_any _ _ hs0).mono ?_; rintro e w' ⟨rfl, rfl⟩; rw [HN2.out]))
        go_ret
        exact ⟨ret_bool HF.out.symm, Fr.refl _ _⟩
      · have h2 : decide (8 < (n : Int)) = false := by simp; omega
        have h8' : n ≤ 8 := by omega
        clear h8
        go_enter Try.func13, Try.ntmps13
        go_wp2_with (first | (go_at_call 31; refine (isTorn_any _ _ hs0).mono ?_; rintro e w' ⟨rfl, rfl⟩; rw [ht]) | (go_at_call 15; refine (len_any _ _ hs0).mono ?_; rintro e w' ⟨rfl, rfl⟩; rw [HN2.out]))
        clear h1 h2
        go_loopw [18] (fun i wr => ∃ k m : Nat, k ≤ n ∧ i = .int .i64 k ∧ wr = w.drewN m ∧ Hid (∀ j : Nat, j < k → atS s j ≠ 0)) (fun i _ => n - (intOf i).toNat)
        case atStart => exact ⟨0, 0, by omega, rfl, rfl, Lib.hid (fun i hi => by omega)⟩
        case round =>
          obtain ⟨k, m, hk, rfl, rfl, hall⟩ := hrel
          by_cases hlt : k < n
          · have hk1 : (k : Int) < n := by omega
            obtain ⟨z, hz⟩ : ∃ z, atS s k = z := ⟨_, rfl⟩
            have HZ := Lib.hid hz
            clear hz
            by_cases hz0 : z = 0
            · have HF : Hid (mayS s = false) := Lib.hid (may_false (.inr (.inr (.inr ⟨k, by rw [← HN.out]; exact hlt, by rw [HZ.out, hz0]⟩))))
              have hz1 : (z == 0) = true := by simp [hz0]
              clear hz0
              go_wp2_with (go_at_call 17; refine (at_any s k _ hs0).mono ?_; rintro e w2 ⟨rfl, nq, rfl⟩; rw [HZ.out])
              go_ret
              exact ⟨ret_bool HF.out.symm, Fr.of_drewN _ _ _⟩
            · have hz1 : (z == 0) = false := by simp [hz0]
              have HZ2 : Hid (∀ j : Nat, j < k + 1 → atS s j ≠ 0) := Lib.hid (fun j hj => by
                rcases Nat.lt_or_ge j k with h | h
                · exact hall.out j h
                · obtain rfl : j = k := by omega
                  rw [HZ.out]; exact hz0)
              clear hz0
              go_wp2_with (go_at_call 17; refine (at_any s k _ hs0).mono ?_; rintro e w2 ⟨rfl, nq, rfl⟩; rw [HZ.out])
              go_roundw
              case rel => exact ⟨k + 1, m + nq, by omega, by go_num, by simp, HZ2⟩
              case measure => simp [intOf]; omega
          · have HF : Hid (mayS s = true) := Lib.hid (may_true ht (by have := HN.out; omega) (by have := HN.out; omega) (fun j hj => hall.out j (by have := HN.out; omega)))
            go_wp2
            go_ret
            exact ⟨ret_bool HF.out.symm, Fr.of_drewN _ _ _⟩
  · have HF : Hid (mayS s = false) := Lib.hid (may_false (.inl ht))
    go_enter Try.func13, Try.ntmps13
    go_wp2_with (first | (go_at_call 31; refine (isTorn_any _ _ hs0).mono ?_; rintro e w' ⟨rfl, rfl⟩; rw [ht]) | (go_at_call 15; refine (len_any _ _ hs0).mono ?_; rintro e w' ⟨rfl, rfl⟩))
    go_ret
    exact ⟨ret_bool HF.out.symm, Fr.refl _ _⟩
end Go.Proofs.Ytbpkfaoaphegnaa
