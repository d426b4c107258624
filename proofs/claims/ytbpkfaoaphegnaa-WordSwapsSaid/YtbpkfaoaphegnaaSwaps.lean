/- WordSwaps: the walk. -/
import Derived.Test.YtbpkfaoaphegnaaCats
import Derived.Test.YtbpkfaoaphegnaaRswap
namespace Go.Proofs.Ytbpkfaoaphegnaa
set_option linter.unusedVariables false
open Go.RowKit

theorem bs_part_to (w : ByteArray) (k : Nat) : bs (w.extract 0 k) = (bs w).take k := by rw [bs_extract]; simp
theorem bs_part_from (w : ByteArray) (k : Nat) : bs (w.extract k w.size) = (bs w).drop k := by rw [bs_extract, List.take_of_length_le (by simp [bs_len])]

/-- what comes of a swap that may be, and of the swap back -/
theorem swaps_ok {w v : ByteArray} {a b : Nat} (hw : tornB w = false) (hv : tornB v = false) (hab : a + b ≤ w.size / 2)
    (h : (w.extract 0 (2 * a)).size + v.size + (w.extract (2 * (a + b)) w.size).size ≤ 16) :
    ∃ S : ByteArray, swapS w a b v = (S, 0) ∧ S.size ≤ 16 ∧ S.size / 2 = w.size / 2 - b + v.size / 2 ∧ subS S a ((v.size : Int) / 2) = (v, 0) ∧
      swapS S a ((v.size : Int) / 2) (w.extract (2 * a) (2 * (a + b))) = if 16 < w.size then (⟨#[]⟩, 4) else (w, 0) := by
  have h1 := tornB_false hw
  have h2 := tornB_false hv
  have z1 : (w.extract 0 (2 * a)).size = 2 * a := by simp; omega
  have z3 : (w.extract (2 * (a + b)) w.size).size = w.size - 2 * (a + b) := by simp
  have zo : (w.extract (2 * a) (2 * (a + b))).size = 2 * b := by simp; omega
  have t1 : tornB (w.extract 0 (2 * a)) = false := by simp [tornB, z1]
  have t3 : tornB (w.extract (2 * (a + b)) w.size) = false := by simp [tornB, z3]; omega
  have tO : tornB (w.extract (2 * a) (2 * (a + b))) = false := by simp [tornB, zo]
  have hS : (w.extract 0 (2 * a) ++ v ++ w.extract (2 * (a + b)) w.size).size = 2 * a + v.size + (w.size - 2 * (a + b)) := by rw [ByteArray.size_append, ByteArray.size_append, z1, z3]
  have hbS : bs (w.extract 0 (2 * a) ++ v ++ w.extract (2 * (a + b)) w.size) = (bs w).take (2 * a) ++ bs v ++ (bs w).drop (2 * (a + b)) := by rw [bs_append, bs_append, bs_part_to, bs_part_from]
  have hl1 : ((bs w).take (2 * a)).length = 2 * a := by simp [bs_len]; omega
  have hV : (v.size : Int) / 2 = ((v.size / 2 : Nat) : Int) := by omega
  have tS : tornB (w.extract 0 (2 * a) ++ v ++ w.extract (2 * (a + b)) w.size) = false := by simp only [tornB, hS]; simp; omega
  refine ⟨w.extract 0 (2 * a) ++ v ++ w.extract (2 * (a + b)) w.size, ?_, by rw [hS]; omega, by rw [hS]; omega, ?_, ?_⟩
  · rw [swapS_in (by simp [hw, hv]) hab, catS_ok (by simp [t1, t3, hv]) (by rw [len3]; exact h), flat3]
  · rw [hV, subS_in tS (by rw [hS]; omega)]
    congr 1
    apply bs_inj
    rw [bs_extract, hbS, List.append_assoc, List.drop_append_of_le_length (by omega), List.drop_of_length_le (by omega), List.nil_append, show 2 * (a + v.size / 2) - 2 * a = (bs v).length by rw [bs_len]; omega]
    exact List.take_left
  · rw [hV, swapS_in (by simp [tS, tO]) (by rw [hS]; omega)]
    have e1 : (w.extract 0 (2 * a) ++ v ++ w.extract (2 * (a + b)) w.size).extract 0 (2 * a) = w.extract 0 (2 * a) := by
      apply bs_inj
      rw [bs_part_to, hbS, bs_part_to, List.append_assoc, List.take_append_of_le_length (by omega), List.take_of_length_le (by omega)]
    have e3 : (w.extract 0 (2 * a) ++ v ++ w.extract (2 * (a + b)) w.size).extract (2 * (a + v.size / 2)) (w.extract 0 (2 * a) ++ v ++ w.extract (2 * (a + b)) w.size).size = w.extract (2 * (a + b)) w.size := by
      apply bs_inj
      rw [bs_part_from, hbS, bs_part_from, show 2 * (a + v.size / 2) = ((bs w).take (2 * a) ++ bs v).length by rw [List.length_append, hl1, bs_len]; omega]
      exact List.drop_left
    rw [e1, e3]
    have hall : flatS [w.extract 0 (2 * a), w.extract (2 * a) (2 * (a + b)), w.extract (2 * (a + b)) w.size] = bs w := by
      simp only [flatS, List.append_nil]
      rw [bs_part_to, bs_part_from, bs_extract, show 2 * (a + b) - 2 * a = 2 * b by omega, show 2 * (a + b) = 2 * a + 2 * b by omega, ← List.drop_drop, List.take_append_drop, List.take_append_drop]
    have hany : [w.extract 0 (2 * a), w.extract (2 * a) (2 * (a + b)), w.extract (2 * (a + b)) w.size].any tornB = false := by simp [t1, t3, tO]
    split
    · rename_i h16
      exact catS_large hany (by rw [hall, bs_len]; exact h16)
    · rename_i h16
      rw [catS_ok hany (by rw [hall, bs_len]; omega), hall]; rfl

set_option maxHeartbeats 4000000 in
set_option maxRecDepth 100000 in
theorem wordSwaps_small (w v : ByteArray) (i n : Int) (W : World) (hw : w.size ≤ 4096) (hv : v.size ≤ 4096) (wi : (Lit.int .i64 i).wf = true) :
    Calls Try.prog 7 #[.string w, .string v, .int .i64 i, .int .i64 n] W fun e w' => e = .returned (.bool true) ∧ Fr (fun _ => False) W w' := by
  have d1 : decide (4096 < (w.size : Int)) = false := by simp; omega
  have d2 : decide (4096 < (v.size : Int)) = false := by simp; omega
  have hw0 : w.size ≤ maxLen := by unfold maxLen; omega
  have hv0 : v.size ≤ maxLen := by unfold maxLen; omega
  cases ht : tornB w
  · cases hp : partB w i n
    · have E1 := Lib.hid (subS_out ht hp)
      cases htv : tornB v
      · have E2 := Lib.hid (swapS_out (v := v) (by simp [ht, htv]) hp)
        clear ht hp htv
        go_enter Try.func7, Try.ntmps7
        go_wp2_with fail
        refine (awake_any _).mono ?_
        rintro e w1 ⟨rfl, hk⟩
        have HK := Lib.hid hk
        clear hk
        go_wp2_with fail
        refine (sub_any w i n _ hw0 wi).mono ?_
        rintro e w' ⟨rfl, rfl⟩
        rw [E1.out]
        go_wp2_with fail
        refine (swap_any w i n v _ (by omega) (by omega) wi).mono ?_
        rintro e w' ⟨rfl, hk⟩
        rw [E2.out]
        replace HK := Lib.hid (HK.out.trans hk)
        clear hk
        go_wp2_with fail
        go_ret
        exact ⟨rfl, HK.out⟩
      · have E2 := Lib.hid (swapS_torn (s := w) (v := v) (i := i) (n := n) (by simp [ht, htv]))
        clear ht hp htv
        go_enter Try.func7, Try.ntmps7
        go_wp2_with fail
        refine (awake_any _).mono ?_
        rintro e w1 ⟨rfl, hk⟩
        have HK := Lib.hid hk
        clear hk
        go_wp2_with fail
        refine (sub_any w i n _ hw0 wi).mono ?_
        rintro e w' ⟨rfl, rfl⟩
        rw [E1.out]
        go_wp2_with fail
        refine (swap_any w i n v _ (by omega) (by omega) wi).mono ?_
        rintro e w' ⟨rfl, hk⟩
        rw [E2.out]
        replace HK := Lib.hid (HK.out.trans hk)
        clear hk
        go_wp2_with fail
        go_ret
        exact ⟨rfl, HK.out⟩
    · obtain ⟨a, b, rfl, rfl, hab⟩ := part_nat hp
      have E1 := Lib.hid (subS_in (a := a) (b := b) ht hab)
      cases htv : tornB v
      · by_cases h16 : (w.extract 0 (2 * a)).size + v.size + (w.extract (2 * (a + b)) w.size).size ≤ 16
        · obtain ⟨S, e2, zS1, hSl, e3, e4⟩ := swaps_ok ht htv hab h16
          have E2 := Lib.hid e2
          have E3 := Lib.hid e3
          have zS : S.size ≤ maxLen := by unfold maxLen; omega
          have zS2 : S.size ≤ 100000 := by omega
          have zo : (w.extract (2 * a) (2 * (a + b))).size ≤ 100000 := by simp; omega
          have l1 : ((S.size : Int) / 2 != (w.size : Int) / 2 - (b : Int) + (v.size : Int) / 2) = false := by simp; omega
          generalize w.extract (2 * a) (2 * (a + b)) = old at *
          have hb1 : (b : Int) ≤ 100000 := by omega
          by_cases hw16 : 16 < w.size
          · rw [if_pos hw16] at e4
            have E4 := Lib.hid e4
            have l2 : decide (8 < (w.size : Int) / 2) = true := by have := tornB_false ht; simp; omega
            clear ht hp htv e2 e3 e4 hSl h16 hab
            go_enter Try.func7, Try.ntmps7
            go_wp2_with fail
            refine (awake_any _).mono ?_
            rintro e w1 ⟨rfl, hk⟩
            have HK := Lib.hid hk
            clear hk
            go_wp2_with fail
            refine (sub_any w a b _ hw0 wi).mono ?_
            rintro e w' ⟨rfl, rfl⟩
            rw [E1.out]
            go_wp2_with fail
            refine (swap_any w a b v _ (by omega) (by omega) wi).mono ?_
            rintro e w' ⟨rfl, hk⟩
            rw [E2.out]
            replace HK := Lib.hid (HK.out.trans hk)
            clear hk
            go_wp2_with fail
            refine (len_any S _ zS).mono ?_
            rintro e w' ⟨rfl, rfl⟩
            go_wp2_with fail
            refine (len_any w _ hw0).mono ?_
            rintro e w' ⟨rfl, rfl⟩
            go_wp2_with fail
            refine (len_any v _ hv0).mono ?_
            rintro e w' ⟨rfl, rfl⟩
            go_wp2_with fail
            refine (len_any v _ hv0).mono ?_
            rintro e w' ⟨rfl, rfl⟩
            go_wp2_with fail
            refine (sub_any S a ((v.size : Int) / 2) _ zS wi).mono ?_
            rintro e w' ⟨rfl, rfl⟩
            rw [E3.out]
            go_wp2_with fail
            refine (len_any v _ hv0).mono ?_
            rintro e w' ⟨rfl, rfl⟩
            go_wp2_with fail
            refine (swap_any S a ((v.size : Int) / 2) old _ zS2 zo wi).mono ?_
            rintro e w' ⟨rfl, hk⟩
            rw [E4.out]
            replace HK := Lib.hid (HK.out.trans hk)
            clear hk
            go_wp2_with fail
            refine (len_any w _ hw0).mono ?_
            rintro e w' ⟨rfl, rfl⟩
            go_wp2_with fail
            go_ret
            exact ⟨rfl, HK.out⟩
          · rw [if_neg hw16] at e4
            have E4 := Lib.hid e4
            have l2 : decide (8 < (w.size : Int) / 2) = false := by simp; omega
            clear ht hp htv e2 e3 e4 hSl h16 hab
            go_enter Try.func7, Try.ntmps7
            go_wp2_with fail
            refine (awake_any _).mono ?_
            rintro e w1 ⟨rfl, hk⟩
            have HK := Lib.hid hk
            clear hk
            go_wp2_with fail
            refine (sub_any w a b _ hw0 wi).mono ?_
            rintro e w' ⟨rfl, rfl⟩
            rw [E1.out]
            go_wp2_with fail
            refine (swap_any w a b v _ (by omega) (by omega) wi).mono ?_
            rintro e w' ⟨rfl, hk⟩
            rw [E2.out]
            replace HK := Lib.hid (HK.out.trans hk)
            clear hk
            go_wp2_with fail
            refine (len_any S _ zS).mono ?_
            rintro e w' ⟨rfl, rfl⟩
            go_wp2_with fail
            refine (len_any w _ hw0).mono ?_
            rintro e w' ⟨rfl, rfl⟩
            go_wp2_with fail
            refine (len_any v _ hv0).mono ?_
            rintro e w' ⟨rfl, rfl⟩
            go_wp2_with fail
            refine (len_any v _ hv0).mono ?_
            rintro e w' ⟨rfl, rfl⟩
            go_wp2_with fail
            refine (sub_any S a ((v.size : Int) / 2) _ zS wi).mono ?_
            rintro e w' ⟨rfl, rfl⟩
            rw [E3.out]
            go_wp2_with fail
            refine (len_any v _ hv0).mono ?_
            rintro e w' ⟨rfl, rfl⟩
            go_wp2_with fail
            refine (swap_any S a ((v.size : Int) / 2) old _ zS2 zo wi).mono ?_
            rintro e w' ⟨rfl, hk⟩
            rw [E4.out]
            replace HK := Lib.hid (HK.out.trans hk)
            clear hk
            go_wp2_with fail
            refine (len_any w _ hw0).mono ?_
            rintro e w' ⟨rfl, rfl⟩
            go_wp2_with fail
            go_ret
            exact ⟨rfl, HK.out⟩
        · have E2 : Hid (swapS w a b v = (⟨#[]⟩, 4)) := Lib.hid (by
            rw [swapS_in (by simp [ht, htv]) hab]
            exact catS_large (torn_swap ht htv hab) (by rw [len3]; omega))
          clear ht hp htv h16
          go_enter Try.func7, Try.ntmps7
          go_wp2_with fail
          refine (awake_any _).mono ?_
          rintro e w1 ⟨rfl, hk⟩
          have HK := Lib.hid hk
          clear hk
          go_wp2_with fail
          refine (sub_any w a b _ hw0 wi).mono ?_
          rintro e w' ⟨rfl, rfl⟩
          rw [E1.out]
          go_wp2_with fail
          refine (swap_any w a b v _ (by omega) (by omega) wi).mono ?_
          rintro e w' ⟨rfl, hk⟩
          rw [E2.out]
          replace HK := Lib.hid (HK.out.trans hk)
          clear hk
          go_wp2_with fail
          go_ret
          exact ⟨rfl, HK.out⟩
      · have E2 := Lib.hid (swapS_torn (s := w) (v := v) (i := (a : Int)) (n := (b : Int)) (by simp [ht, htv]))
        clear ht hp htv
        go_enter Try.func7, Try.ntmps7
        go_wp2_with fail
        refine (awake_any _).mono ?_
        rintro e w1 ⟨rfl, hk⟩
        have HK := Lib.hid hk
        clear hk
        go_wp2_with fail
        refine (sub_any w a b _ hw0 wi).mono ?_
        rintro e w' ⟨rfl, rfl⟩
        rw [E1.out]
        go_wp2_with fail
        refine (swap_any w a b v _ (by omega) (by omega) wi).mono ?_
        rintro e w' ⟨rfl, hk⟩
        rw [E2.out]
        replace HK := Lib.hid (HK.out.trans hk)
        clear hk
        go_wp2_with fail
        go_ret
        exact ⟨rfl, HK.out⟩
  · have E1 := Lib.hid (subS_torn (i := i) (n := n) ht)
    have E2 := Lib.hid (swapS_torn (s := w) (v := v) (i := i) (n := n) (by simp [ht]))
    clear ht
    go_enter Try.func7, Try.ntmps7
    go_wp2_with fail
    refine (awake_any _).mono ?_
    rintro e w1 ⟨rfl, hk⟩
    have HK := Lib.hid hk
    clear hk
    go_wp2_with fail
    refine (sub_any w i n _ hw0 wi).mono ?_
    rintro e w' ⟨rfl, rfl⟩
    rw [E1.out]
    go_wp2_with fail
    refine (swap_any w i n v _ (by omega) (by omega) wi).mono ?_
    rintro e w' ⟨rfl, hk⟩
    rw [E2.out]
    replace HK := Lib.hid (HK.out.trans hk)
    clear hk
    go_wp2_with fail
    go_ret
    exact ⟨rfl, HK.out⟩

set_option maxHeartbeats 1000000 in
theorem wordSwaps_walk {w : World} (a : ByteArray) (ha : a.size ≤ maxLen) (b : ByteArray) (hb : b.size ≤ maxLen) (i : Int) (wi : (Lit.int .i64 i).wf = true) (n : Int) (wn : (Lit.int .i64 n).wf = true) :
    Calls Try.prog 7 #[.string a, .string b, .int .i64 i, .int .i64 n] w fun e w' => e = .returned (.bool true) ∧ Fr (fun _ => False) w w' := by
  unfold maxLen at ha hb
  by_cases la : 4096 < a.size
  · have d1 : decide (4096 < (a.size : Int)) = true := by simp; omega
    go_enter Try.func7, Try.ntmps7
    go_wp2_with fail
    refine (awake_any _).mono ?_
    rintro e w1 ⟨rfl, hk⟩
    have HK := Lib.hid hk
    clear hk
    go_wp2_with fail
    go_ret
    exact ⟨rfl, HK.out⟩
  · have d1 : decide (4096 < (a.size : Int)) = false := by simp; omega
    by_cases lb : 4096 < b.size
    · have d2 : decide (4096 < (b.size : Int)) = true := by simp; omega
      go_enter Try.func7, Try.ntmps7
      go_wp2_with fail
      refine (awake_any _).mono ?_
      rintro e w1 ⟨rfl, hk⟩
      have HK := Lib.hid hk
      clear hk
      go_wp2_with fail
      go_ret
      exact ⟨rfl, HK.out⟩
    · exact wordSwaps_small a b i n w (by omega) (by omega) wi
end Go.Proofs.Ytbpkfaoaphegnaa
