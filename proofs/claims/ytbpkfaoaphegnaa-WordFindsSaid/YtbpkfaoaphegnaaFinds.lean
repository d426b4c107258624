/- WordFinds: the walk. -/
import Derived.Test.YtbpkfaoaphegnaaAwake
import Derived.Test.YtbpkfaoaphegnaaWBack
import Derived.Deep.DeepCutAuto
import Derived.Deep.CutBlock
namespace Go.Proofs.Ytbpkfaoaphegnaa
set_option linter.unusedVariables false
open Go.RowKit

theorem stands_mid {a v b : ByteArray} (ha : tornB a = false) : standsB (a ++ v ++ b) v (a.size / 2) = true := by
  have h := tornB_false ha
  simp only [standsB, decide_eq_true_eq, bs_append]
  rw [List.append_assoc, show 2 * (a.size / 2) = (bs a).length by rw [bs_len]; omega, List.drop_left, ← bs_len v]
  exact List.take_left
/-- the word without its odd byte -/
def evenS (W : ByteArray) : ByteArray := W.extract 0 (W.size - W.size % 2)
theorem sub_even {W v : ByteArray} {k : Nat} (hv : tornB v = false) (h : 2 * k + v.size ≤ W.size) : subS (evenS W) k ((v.size : Int) / 2) = (W.extract (2 * k) (2 * k + v.size), 0) := by
  have h1 := tornB_false hv
  have hs : (evenS W).size = W.size - W.size % 2 := by simp [evenS]
  have ht : tornB (evenS W) = false := by simp only [tornB, hs]; simp; omega
  rw [show (v.size : Int) / 2 = ((v.size / 2 : Nat) : Int) by omega, subS_in ht (by rw [hs]; omega)]
  congr 1
  apply bs_inj
  rw [bs_extract, bs_extract, evenS, bs_extract, List.drop_zero, Nat.sub_zero, List.drop_take, List.take_take]
  congr 1
  omega
theorem ext_eq {W v : ByteArray} {k : Nat} (h : standsB W v k = true) : W.extract (2 * k) (2 * k + v.size) = v := by
  apply bs_inj
  rw [bs_extract, Nat.add_sub_cancel_left]
  simpa [standsB] using h

set_option maxHeartbeats 8000000 in
set_option maxRecDepth 100000 in
theorem wordFinds_small (a v b : ByteArray) (i : Int) (w : World) (ha : a.size ≤ 4096) (hv : v.size ≤ 4096) (hb : b.size ≤ 4096) (hta : tornB a = false) (htv : tornB v = false) (wi : (Lit.int .i64 i).wf = true) :
    Calls Try.prog 8 #[.string a, .string v, .string b, .int .i64 i] w fun e w' => e = .returned (.bool true) ∧ Fr (fun _ => False) w w' := by
  obtain ⟨hi0, hi1⟩ := i64_bounds wi
  have d1 : decide (4096 < (a.size : Int)) = false := by simp; omega
  have d2 : decide (4096 < (v.size : Int)) = false := by simp; omega
  have d3 : decide (4096 < (b.size : Int)) = false := by simp; omega
  have d4 : ((a.size : Int) % 2 == 1) = false := by have := tornB_false hta; rw [beq_eq_false_iff_ne]; omega
  have d5 : ((v.size : Int) % 2 == 1) = false := by have := tornB_false htv; rw [beq_eq_false_iff_ne]; omega
  have ha0 : a.size ≤ maxLen := by unfold maxLen; omega
  have hv0 : v.size ≤ maxLen := by unfold maxLen; omega
  have j1 : ∀ wx, (Op.stringOp .add a v).run Try.prog wx = .ok (.string (a ++ v)) wx := fun wx => run_string_add_sum wx a v (by omega)
  have j2 : ∀ wx, (Op.stringOp .add (a ++ v) b).run Try.prog wx = .ok (.string (a ++ v ++ b)) wx := fun wx => run_string_add_sum wx _ b (by rw [ByteArray.size_append]; omega)
  have HM := Lib.hid (stands_mid (v := v) (b := b) hta)
  have hW : (a ++ v ++ b).size ≤ 100000 := by rw [ByteArray.size_append, ByteArray.size_append]; omega
  have hWn : (a ++ v ++ b).size = a.size + v.size + b.size := by rw [ByteArray.size_append, ByteArray.size_append]
  have HWn := Lib.hid hWn
  generalize a ++ v ++ b = W at *
  generalize a ++ v = av at *
  clear hWn
  have HV := Lib.hid htv
  by_cases h0 : v.size = 0
  · have hv2 : v = ⟨#[]⟩ := by
      apply bs_inj
      have := bs_len v
      rw [h0] at this
      rw [List.eq_nil_of_length_eq_zero this]; rfl
    subst hv2
    have HN := Lib.hid (fun r (h : FindIs W ⟨#[]⟩ i r) => h.unique (find_none (w := W) (v := ⟨#[]⟩) (i := i) (.inr rfl)))
    clear htv hta h0
    go_enter Try.func8, Try.ntmps8
    go_wp2_with fail
    refine (awake_any _).mono ?_
    rintro e w1 ⟨rfl, hk⟩
    have HK := Lib.hid hk
    clear hk
    go_wp2_with fail
    refine (find_any W ⟨#[]⟩ i _ hW (by decide) wi).mono ?_
    rintro e w2 ⟨r, rfl, hr, hk⟩
    obtain rfl := HN.out r hr
    replace HK := Lib.hid (HK.out.trans hk)
    clear hk hr
    go_wp2_with fail
    go_ret
    exact ⟨rfl, HK.out⟩
  · have hve : (v.toList == []) = false := by
      rw [bs_toList, beq_eq_false_iff_ne]
      intro e
      have := bs_len v
      rw [e] at this; exact h0 this.symm
    have H0 := Lib.hid h0
    have hdiv : (v.size : Int) / 2 ≤ 2048 := by omega
    have HP : Hid (∀ r, FindIs W v i r → (r = -1 ∧ (a.size : Int) / 2 < i) ∨ ∃ k : Nat, r = k ∧ i ≤ k ∧ 2 * k + v.size ≤ W.size ∧ standsB W v k = true ∧ (∀ j : Nat, j < k → i ≤ j → standsB W v j = false) ∧ ((a.size : Int) / 2 < i ∨ (k : Int) ≤ (a.size : Int) / 2)) := Lib.hid (fun r h => by
      unfold FindIs at h
      rw [if_neg (by simp [htv, h0])] at h
      rcases h with ⟨h1, h2⟩ | ⟨k, h1, h2, h3, h4⟩
      · left
        refine ⟨h1, ?_⟩
        rcases Int.lt_or_le ((a.size : Int) / 2) i with h | h
        · exact h
        · have := h2 (a.size / 2) (by omega)
          rw [HM.out] at this; cases this
      · right
        refine ⟨k, h1, h2, stands_le h3 (by omega), h3, h4, ?_⟩
        rcases Int.lt_or_le ((a.size : Int) / 2) i with h | h
        · exact .inl h
        · right
          rcases Nat.lt_or_ge (a.size / 2) k with hl | hl
          · have := h4 (a.size / 2) hl (by omega)
            rw [HM.out] at this; cases this
          · omega)
    clear htv hta h0
    go_enter Try.func8, Try.ntmps8
    go_wp2_with fail
    refine (awake_any _).mono ?_
    rintro e w1 ⟨rfl, hk⟩
    have HK := Lib.hid hk
    clear hk
    go_wp2_with fail
    refine (find_any W v i _ hW (by omega) wi).mono ?_
    rintro e w2 ⟨r, rfl, hr, hk⟩
    replace HK := Lib.hid (HK.out.trans hk)
    rcases HP.out r hr with ⟨rfl, hlt⟩ | ⟨k, rfl, hik, hkW, hst, hno, hor⟩
    · clear hk hr
      go_wp2_with fail
      refine (len_any a _ ha0).mono ?_
      rintro e w' ⟨rfl, rfl⟩
      have hd : decide ((a.size : Int) / 2 < i) = true := by simpa using hlt
      clear hlt
      go_wp2_with fail
      go_ret
      exact ⟨rfl, HK.out⟩
    · have zW : (evenS W).size ≤ maxLen := by simp [evenS]; unfold maxLen; omega
      have x1 : ∀ wx, (Instr.slice 22 (.string W) none (some (.int .i64 ((W.size : Int) - (W.size : Int) % 2))) none).run Try.prog wx = .ok (.string (evenS W)) wx := fun wx => by
        rw [Go.run_slice_string_to_if wx 22 W _ _ Try.underlying22, if_pos (by omega), evenS]
        congr 3
        omega
      have y1 : (W.size : Int).tmod 2 = (W.size : Int) % 2 := Int.tmod_eq_emod_of_nonneg (by omega)
      have y2 : IntKind.i64.wrap ((W.size : Int) - (W.size : Int) % 2) = (W.size : Int) - (W.size : Int) % 2 := IntWalk.i64_in _ (by omega)
      have HSub : Hid (∀ (j : Nat), 2 * j + v.size ≤ W.size → ∀ w, Calls Try.prog 11 #[.string (evenS W), .int .i64 j, .int .i64 ((v.size : Int) / 2)] w fun e w' => e = .returned (.tuple #[.string (W.extract (2 * j) (2 * j + v.size)), .int .i64 0]) ∧ w = w') := Lib.hid (fun j hj w => by
        have := sub_any (evenS W) j ((v.size : Int) / 2) w zW (by simp [Lit.wf, IntKind.min, IntKind.max, IntKind.signed, IntKind.bits]; omega)
        rwa [sub_even HV.out hj] at this)
      have HSK : Hid (∀ w, Calls Try.prog 11 #[.string (evenS W), .int .i64 k, .int .i64 ((v.size : Int) / 2)] w fun e w' => e = .returned (.tuple #[.string v, .int .i64 0]) ∧ w = w') := Lib.hid (fun w => by
        have := HSub.out k hkW w
        rwa [ext_eq hst] at this)
      have HLen : Hid (∀ w, Calls Try.prog 15 #[.string v] w fun e w' => e = .returned (.int .i64 ((v.size : Int) / 2)) ∧ w = w') := Lib.hid (fun w => len_any v w hv0)
      generalize evenS W = E at *
      have HNO := Lib.hid hno
      have HOR := Lib.hid hor
      clear hk hr hno hor hst
      have d6 : decide ((k : Int) < i) = false := by simpa using hik
      have d7 : (v.toList != v.toList) = false := by simp
      have d8 : decide ((k : Int) < 0) = false := by simp
      have hkk : (k : Int) ≤ 100000 := by omega
      go_wp2_with fail
      go_quiet (first | (go_at_call 15; exact quiet_same HLen.out) | (go_at_call 11; exact quiet_same HSK.out))
      go_wp2_with fail
      all_goals
        replace HK := Lib.hid (HK.out.trans (Fr.of_drewN _ _ nq))
        generalize w2.drewN nq = wl at *
        obtain ⟨s0, hs0⟩ : ∃ s0, s0 = i.toNat := ⟨_, rfl⟩
        have HS0 := Lib.hid hs0
        clear hs0 d6 d8
        go_loopw [13] (fun p wr => ∃ j : Nat, p = .int .i64 j ∧ j ≤ k ∧ i ≤ j ∧ Hid (Kept w wr)) (fun p _ => k - (intOf p).toNat)
        case atStart => exact ⟨s0, congrArg (Value.int .i64) (by have := HS0.out; omega), by have := HS0.out; omega, by have := HS0.out; omega, HK⟩
        case round =>
          obtain ⟨j, rfl, hjk, hij, hkr⟩ := hrel
          by_cases hlt : j < k
          · have h1 : (j : Int) < k := by omega
            have hjW : 2 * j + v.size ≤ W.size := by omega
            have HSJ := Lib.hid (HSub.out j hjW)
            have HT := Lib.hid ((stands_eq (w := W) (v := v) (k := j)).trans (HNO.out j hlt hij))
            generalize W.extract (2 * j) (2 * j + v.size) = t at *
            have htv : (t.toList == v.toList) = false := HT.out
            go_wp2_with fail
            go_quiet (first | (go_at_call 15; exact quiet_same HLen.out) | (go_at_call 11; exact quiet_same HSJ.out))
            go_wp2_with fail
            go_roundw
            case rel => exact ⟨j + 1, by go_num, by omega, by omega, Lib.hid (hkr.out.trans (Fr.of_drewN _ _ _))⟩
            case measure => simp [intOf]; omega
          · have h1 : ¬ (j : Int) < k := by omega
            by_cases hai : (a.size : Int) / 2 < i
            · have hd : decide ((a.size : Int) / 2 < i) = true := by simpa using hai
              clear hai
              go_wp2_with fail
              refine (len_any a _ ha0).mono ?_
              rintro e w' ⟨rfl, rfl⟩
              go_wp2_with fail
              go_ret
              exact ⟨rfl, hkr.out⟩
            · have hd : decide ((a.size : Int) / 2 < i) = false := by simpa using hai
              have hd2 : decide ((k : Int) ≤ (a.size : Int) / 2) = true := by
                rcases HOR.out with h | h
                · exact absurd h hai
                · simpa using h
              clear hai
              go_wp2_with fail
              refine (len_any a _ ha0).mono ?_
              rintro e w' ⟨rfl, rfl⟩
              go_wp2_with fail
              refine (len_any a _ ha0).mono ?_
              rintro e w' ⟨rfl, rfl⟩
              go_wp2_with fail
              go_ret
              exact ⟨rfl, hkr.out⟩

set_option maxHeartbeats 1000000 in
theorem wordFinds_walk {w : World} (a : ByteArray) (ha : a.size ≤ maxLen) (v : ByteArray) (hv : v.size ≤ maxLen) (b : ByteArray) (hb : b.size ≤ maxLen) (i : Int) (wi : (Lit.int .i64 i).wf = true) :
    Calls Try.prog 8 #[.string a, .string v, .string b, .int .i64 i] w fun e w' => e = .returned (.bool true) ∧ Fr (fun _ => False) w w' := by
  unfold maxLen at ha hv hb
  by_cases la : 4096 < a.size
  · have d1 : decide (4096 < (a.size : Int)) = true := by simp; omega
    go_enter Try.func8, Try.ntmps8
    go_wp2_with fail
    refine (awake_any _).mono ?_
    rintro e w1 ⟨rfl, hk⟩
    have HK := Lib.hid hk
    clear hk
    go_wp2_with fail
    go_ret
    exact ⟨rfl, HK.out⟩
  · have d1 : decide (4096 < (a.size : Int)) = false := by simp; omega
    by_cases lb : 4096 < v.size
    · have d2 : decide (4096 < (v.size : Int)) = true := by simp; omega
      go_enter Try.func8, Try.ntmps8
      go_wp2_with fail
      refine (awake_any _).mono ?_
      rintro e w1 ⟨rfl, hk⟩
      have HK := Lib.hid hk
      clear hk
      go_wp2_with fail
      go_ret
      exact ⟨rfl, HK.out⟩
    · have d2 : decide (4096 < (v.size : Int)) = false := by simp; omega
      by_cases lc : 4096 < b.size
      · have d3 : decide (4096 < (b.size : Int)) = true := by simp; omega
        go_enter Try.func8, Try.ntmps8
        go_wp2_with fail
        refine (awake_any _).mono ?_
        rintro e w1 ⟨rfl, hk⟩
        have HK := Lib.hid hk
        clear hk
        go_wp2_with fail
        go_ret
        exact ⟨rfl, HK.out⟩
      · have d3 : decide (4096 < (b.size : Int)) = false := by simp; omega
        cases hta : tornB a
        · cases htv : tornB v
          · exact wordFinds_small a v b i w (by omega) (by omega) (by omega) hta htv wi
          · have d4 : ((a.size : Int) % 2 == 1) = false := by have := tornB_false hta; rw [beq_eq_false_iff_ne]; omega
            have d5 : ((v.size : Int) % 2 == 1) = true := by have := tornB_true htv; rw [beq_iff_eq]; omega
            go_enter Try.func8, Try.ntmps8
            go_wp2_with fail
            refine (awake_any _).mono ?_
            rintro e w1 ⟨rfl, hk⟩
            have HK := Lib.hid hk
            clear hk
            go_wp2_with fail
            go_ret
            exact ⟨rfl, HK.out⟩
        · have d4 : ((a.size : Int) % 2 == 1) = true := by have := tornB_true hta; rw [beq_iff_eq]; omega
          go_enter Try.func8, Try.ntmps8
          go_wp2_with fail
          refine (awake_any _).mono ?_
          rintro e w1 ⟨rfl, hk⟩
          have HK := Lib.hid hk
          clear hk
          go_wp2_with fail
          go_ret
          exact ⟨rfl, HK.out⟩
end Go.Proofs.Ytbpkfaoaphegnaa
