/- Swap of the reference. -/
import Derived.Test.YtbpkfaoaphegnaaRsub
import Derived.Test.YtbpkfaoaphegnaaRcat
import Derived.Test.YtbpkfaoaphegnaaSwap
import Derived.Deep.DeepMust
namespace Go.Proofs.Ytbpkfaoaphegnaa
set_option linter.unusedVariables false
open Go.RowKit

theorem flat_swap {s v : ByteArray} {a b : Nat} (h : tornB s = false) (hv : tornB v = false) (hab : a + b ≤ s.size / 2) :
    atoms (flatS [s.extract 0 (2 * a), v, s.extract (2 * (a + b)) s.size]) = (atoms (bs s)).take a ++ atoms (bs v) ++ (atoms (bs s)).drop (a + b) := by
  have h1 := tornB_false h
  have h2 := tornB_false hv
  have e1 : bs (s.extract 0 (2 * a)) = (bs s).take (2 * a) := by rw [bs_extract]; simp
  have e3 : bs (s.extract (2 * (a + b)) s.size) = (bs s).drop (2 * (a + b)) := by
    rw [bs_extract, List.take_of_length_le (by simp [bs_len])]
  simp only [flatS, List.append_nil, e1, e3]
  rw [atoms_append _ _ (by simp [bs_len]; omega), atoms_append _ _ (by rw [bs_len]; exact h2), atoms_take, atoms_drop, List.append_assoc]
theorem torn_swap {s v : ByteArray} {a b : Nat} (h : tornB s = false) (hv : tornB v = false) (hab : a + b ≤ s.size / 2) :
    [s.extract 0 (2 * a), v, s.extract (2 * (a + b)) s.size].any tornB = false := by
  have h1 := tornB_false h
  have g1 : tornB (s.extract 0 (2 * a)) = false := by simp [tornB]; omega
  have g3 : tornB (s.extract (2 * (a + b)) s.size) = false := by simp [tornB]; omega
  simp [g1, g3, hv]

theorem own_at (g n c : Nat) : ∀ g', (Value.slice (some ⟨g, 0, none⟩) n c).ownBlock = some g' → g ≤ g' := fun g' h => by
  have : g = g' := by simpa [Value.ownBlock] using h
  omega

set_option maxHeartbeats 4000000 in
theorem rswap_any (s : ByteArray) (i n : Int) (v : ByteArray) (w : World) (hs : s.size ≤ 100000) (hv : v.size ≤ 100000) (wi : (Lit.int .i64 i).wf = true) :
    Calls Try.prog 30 #[.string s, .int .i64 i, .int .i64 n, .string v] w (PairPost (swapS s i n v) w) := by
  have t1 := torn_eq s
  have t2 := torn_eq v
  cases ht : tornB s || tornB v
  · have HT := Lib.hid ht
    simp only [Bool.or_eq_false_iff] at ht
    obtain ⟨ht1, ht2⟩ := ht
    rw [ht1] at t1
    rw [ht2] at t2
    cases hp : partB s i n
    · have HA := Lib.hid (swapS_out HT.out hp)
      have HS := Lib.hid (subS_out ht1 hp)
      go_enter Try.func30, Try.ntmps30
      go_wp2_with fail
      refine (rsub_any s i n _ hs wi).mono ?_
      rintro e w1 ⟨rfl, hk⟩
      rw [HS.out]
      have HK := Lib.hid hk
      clear hk
      go_wp2_with fail
      go_ret2
      exact ⟨pair_of HA.out, HK.out⟩
    · obtain ⟨a, b, rfl, rfl, hab⟩ := part_nat hp
      have HA := Lib.hid (swapS_in HT.out hab)
      have HS := Lib.hid (subS_in (a := a) (b := b) ht1 hab)
      have HF := Lib.hid (flat_swap ht1 ht2 hab)
      have HN := Lib.hid (torn_swap ht1 ht2 hab)
      obtain ⟨m, hm⟩ : ∃ m, m = s.size / 2 := ⟨_, rfl⟩
      obtain ⟨q, hq⟩ : ∃ q, q = v.size / 2 := ⟨_, rfl⟩
      have HL : Hid ((atoms (bs s)).length = m) := Lib.hid (by rw [atoms_len, bs_len, hm])
      have HL2 : Hid ((atoms (bs v)).length = q) := Lib.hid (by rw [atoms_len, bs_len, hq])
      have hmb : m ≤ 50000 := by omega
      have hqb : q ≤ 50000 := by omega
      have habm : a + b ≤ m := by omega
      generalize [s.extract 0 (2 * a), v, s.extract (2 * (a + b)) s.size] = L at *
      clear hm hq hab hp ht1 ht2
      have e1 : (a : Int) ≤ m := by omega
      have e2 : (a : Int) + b ≤ m := by omega
      go_enter Try.func30, Try.ntmps30
      go_wp2_with fail
      refine (rsub_any s a b _ hs wi).mono ?_
      rintro e w1 ⟨rfl, hk⟩
      rw [HS.out]
      have HK := Lib.hid hk
      clear hk
      go_wp2_with fail
      refine (ratoms_any s _ hs).mono ?_
      rintro e w2 ⟨v2, rfl, hrow2, hk2⟩
      have HK2 := Lib.hid (HK.out.trans hk2)
      have HR := Lib.hid (Reads.of_row hrow2).any
      obtain ⟨u1, hu1, hs1⟩ := run_to HR.out (hi := a) (by have := HL.out; omega) (b := (a : Int)) rfl
      obtain ⟨u3, hu3, hs3⟩ := run_from HR.out (lo := a + b) (by have := HL.out; omega) (a := (a : Int) + (b : Int)) (by omega)
      have HU1 := Lib.hid hu1
      have HU3 := Lib.hid hu3
      have HS1 := Lib.hid (hu1.src (P := Try.prog) Try.underlying29 one_u16)
      clear hrow2 hk2 HK hu1 hu3
      have q1 : Hid ((cellsOf ((atoms (bs s)).take a)).length = a) := Lib.hid (by simp [cellsOf]; have := HL.out; omega)
      have q3 : Hid ((cellsOf ((atoms (bs s)).drop (a + b))).length = m - (a + b)) := Lib.hid (by simp [cellsOf]; have := HL.out; omega)
      have q2 : Hid ((cellsOf (atoms (bs v))).length = q) := Lib.hid (by simp [cellsOf, HL2.out])
      go_wp2_with (at_builtin; go_must (refine list_app rfl (.tmp 36) (.tmp 39) 29 29 rfl Try.slice29 rfl (by exact own_new (heap_alloc_new w2 _) (Nat.le_refl _)) rfl (by exact (HU1.out.new (Fr.of_alloc _ w2 _)).src Try.underlying29 one_u16) (by rw [q1.out]; unfold maxLen; omega) (by rw [q1.out]; omega) (by simp) ?_; intro v4 w4 hp1; rw [q1.out, Nat.zero_add, List.nil_append] at hp1; have Hp1 := Lib.hid (And.intro hp1 (hp1.kept (Fr.of_alloc _ w2 _) (own_at _ _ _))); clear hp1))
      refine (ratoms_any v _ hv).mono ?_
      rintro e w5 ⟨v5, rfl, hrow5, hk5⟩
      have HK5 := Lib.hid hk5
      have HS5 := Lib.hid ((Reads.of_row hrow5).src (P := Try.prog) Try.underlying29 one_u16)
      clear hrow5 hk5
      go_wp2_with (first
        | (at_builtin; refine list_app rfl (.tmp 41) (.tmp 43) 29 29 rfl Try.slice29 rfl (by exact own_kept Hp1.out.1.1 HK5.out) rfl (by exact HS5.out) (by rw [q2.out]; unfold maxLen; omega) (by rw [q2.out]; omega) (by exact (Hp1.out.2.1.trans HK5.out).size) ?_; intro v6 w6 hp2; rw [q2.out] at hp2; have Hp2 := Lib.hid (And.intro hp2 (hp2.kept (Hp1.out.2.1.trans HK5.out) Hp1.out.2.2)); clear hp2)
        | (at_builtin; refine list_app rfl (.tmp 45) (.tmp 50) 29 29 rfl Try.slice29 rfl (by exact Hp2.out.1.1) rfl (by exact (HU3.out.new Hp2.out.2.1).src Try.underlying29 one_u16) (by rw [q3.out]; unfold maxLen; omega) (by rw [q3.out]; omega) (by exact Hp2.out.2.1.size) ?_; intro v8 w8 hp3; rw [q3.out] at hp3; have Hp3 := Lib.hid (And.intro hp3 (hp3.kept Hp2.out.2.1 Hp2.out.2.2)); clear hp3; obtain ⟨o8, c8, hv8, hc8⟩ := own_slice Hp3.out.1.1; subst hv8))
      all_goals
        have HQ : Hid (cellsOf ((atoms (bs s)).take a) ++ cellsOf (atoms (bs v)) ++ cellsOf ((atoms (bs s)).drop (a + b)) = cellsOf (atoms (flatS L))) := Lib.hid (by rw [HF.out]; simp [cellsOf])
        have HE : Hid ((flatS L).length = 2 * (a + q + (m - (a + b)))) := Lib.hid (by
          have h1 := flat_even HN.out
          have h2 := congrArg List.length HF.out
          simp [atoms_len, HL.out, HL2.out] at h2
          have h3 := HL.out
          have h4 := HL2.out
          rw [atoms_len, bs_len] at h3 h4
          omega)
        have HKK : Hid (Kept w w8) := Lib.hid (HK2.out.trans Hp3.out.2.1)
        have HRR : Hid (Reads w8 (fun _ => True) (.slice o8 (a + q + (m - (a + b))) c8) (cellsOf (atoms (flatS L)))) := Lib.hid (by rw [← HQ.out]; exact (Reads.of_row Hp3.out.1.1).any)
        clear Hp1 Hp2 Hp3 HQ hs1 hs3 HU1 HU3 HS1 HS5
      · have h8 : 8 < (a : Int) + q + ((m - (a + b) : Nat) : Int) := by assumption
        have HB := Lib.hid (catS_large HN.out (by have := HE.out; omega))
        go_ret2
        exact ⟨pair_of (HA.out.trans HB.out), HKK.out⟩
      · have h8 : (a : Int) + q + ((m - (a + b) : Nat) : Int) ≤ 8 := by assumption
        have HB : Hid (catS L = (ofS (atoms (flatS L)), 0)) := Lib.hid (by
          rw [ofS_flat HN.out]
          exact catS_ok HN.out (by have := HE.out; omega))
        have hlb : (atoms (flatS L)).length ≤ 100000 := by rw [atoms_len]; have := HE.out; omega
        refine (rof_any HRR.out (atoms_good _) hlb).mono ?_
        rintro e w9 ⟨rfl, hk9⟩
        have HK9 := Lib.hid (HKK.out.trans hk9)
        clear hk9
        go_wp2_with fail
        go_ret2
        exact ⟨pair_of (HA.out.trans HB.out), HK9.out⟩
  · have HA := Lib.hid (swapS_torn (i := i) (n := n) ht)
    cases ht1 : tornB s
    · have ht2 : tornB v = true := by rw [ht1] at ht; simpa using ht
      rw [ht1] at t1
      rw [ht2] at t2
      go_enter Try.func30, Try.ntmps30
      go_wp2_with fail
      go_ret2
      exact ⟨pair_of HA.out, Fr.refl _ _⟩
    · rw [ht1] at t1
      go_enter Try.func30, Try.ntmps30
      go_wp2_with fail
      go_ret2
      exact ⟨pair_of HA.out, Fr.refl _ _⟩
end Go.Proofs.Ytbpkfaoaphegnaa
