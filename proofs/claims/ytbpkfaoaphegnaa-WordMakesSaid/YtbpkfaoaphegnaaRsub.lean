/- Sub of the reference. -/
import Derived.Test.YtbpkfaoaphegnaaSub
namespace Go.Proofs.Ytbpkfaoaphegnaa
set_option linter.unusedVariables false
open Go.RowKit

theorem torn_eq (s : ByteArray) : ((s.size : Int) % 2 == 1) = tornB s := by
  rw [Bool.eq_iff_iff]; simp [tornB]; omega

theorem bs_part {s : ByteArray} {a b : Nat} : unatoms (((atoms (bs s)).drop a).take b) = unatoms (atoms (((bs s).drop (2 * a)).take (2 * b))) := by
  rw [atoms_take, atoms_drop]
theorem ofS_part {s : ByteArray} {a b : Nat} (h : a + b ≤ s.size / 2) : ofS (((atoms (bs s)).drop a).take b) = s.extract (2 * a) (2 * (a + b)) := by
  apply bs_inj
  rw [bs_ofS, bs_part, bs_extract, unatoms_atoms]
  · congr 1; omega
  · simp [bs_len]; omega

set_option maxHeartbeats 2000000 in
theorem rsub_any (s : ByteArray) (i n : Int) (w : World) (hs : s.size ≤ 100000) (wi : (Lit.int .i64 i).wf = true) :
    Calls Try.prog 12 #[.string s, .int .i64 i, .int .i64 n] w (PairPost (subS s i n) w) := by
  obtain ⟨hi0, hi1⟩ := i64_bounds wi
  clear wi
  have ht1 := torn_eq s
  cases ht : tornB s
  · rw [ht] at ht1
    obtain ⟨m, hm⟩ : ∃ m, m = s.size / 2 := ⟨_, rfl⟩
    have HL : Hid ((cellsOf (atoms (bs s))).length = m) := Lib.hid (by simp [cellsOf, atoms_len, bs_len, hm])
    have hmb : m ≤ 50000 := by omega
    have HM := Lib.hid hm
    clear hm
    cases hp : partB s i n
    · have HA := Lib.hid (subS_out ht hp)
      have HP := Lib.hid hp
      clear hp
      by_cases c1 : i < 0
      · have d1 : decide (i < 0) = true := by simpa using c1
        go_enter Try.func12, Try.ntmps12
        go_wp2_with fail
        refine (ratoms_any s _ hs).mono ?_
        rintro e w1 ⟨v, rfl, hrow, hk⟩
        have HK := Lib.hid hk
        rw [HL.out] at hrow
        obtain ⟨ao, c, rfl, _⟩ := own_slice hrow
        clear hrow hk
        go_wp2
        go_ret2
        exact ⟨pair_of HA.out, HK.out⟩
      · have d1 : decide (i < 0) = false := by simpa using c1
        by_cases c2 : n < 0
        · have d2 : decide (n < 0) = true := by simpa using c2
          go_enter Try.func12, Try.ntmps12
          go_wp2_with fail
          refine (ratoms_any s _ hs).mono ?_
          rintro e w1 ⟨v, rfl, hrow, hk⟩
          have HK := Lib.hid hk
          rw [HL.out] at hrow
          obtain ⟨ao, c, rfl, _⟩ := own_slice hrow
          clear hrow hk
          go_wp2
          go_ret2
          exact ⟨pair_of HA.out, HK.out⟩
        · have d2 : decide (n < 0) = false := by simpa using c2
          by_cases c3 : (m : Int) < i
          · have d3 : decide ((m : Int) < i) = true := by simpa using c3
            go_enter Try.func12, Try.ntmps12
            go_wp2_with fail
            refine (ratoms_any s _ hs).mono ?_
            rintro e w1 ⟨v, rfl, hrow, hk⟩
            have HK := Lib.hid hk
            rw [HL.out] at hrow
            obtain ⟨ao, c, rfl, _⟩ := own_slice hrow
            clear hrow hk
            go_wp2
            go_ret2
            exact ⟨pair_of HA.out, HK.out⟩
          · have d3 : decide ((m : Int) < i) = false := by simpa using c3
            have c4 : (m : Int) - i < n := by
              have := HP.out
              simp [partB] at this
              have := this (by omega) (by omega)
              have := HM.out
              omega
            have d4 : decide ((m : Int) - i < n) = true := by simpa using c4
            go_enter Try.func12, Try.ntmps12
            go_wp2_with fail
            refine (ratoms_any s _ hs).mono ?_
            rintro e w1 ⟨v, rfl, hrow, hk⟩
            have HK := Lib.hid hk
            rw [HL.out] at hrow
            obtain ⟨ao, c, rfl, _⟩ := own_slice hrow
            clear hrow hk
            go_wp2
            go_ret2
            exact ⟨pair_of HA.out, HK.out⟩
    · obtain ⟨a, b, rfl, rfl, hab⟩ := part_nat hp
      have HA := Lib.hid (subS_in (a := a) (b := b) ht hab)
      have HO := Lib.hid (ofS_part hab)
      have hab2 : a + b ≤ m := by have := HM.out; omega
      have hlen : (((atoms (bs s)).drop a).take b).length ≤ 100000 := by simp [atoms_len, bs_len]; omega
      have hla : a + b ≤ (atoms (bs s)).length := by rw [atoms_len, bs_len]; exact hab
      have HG : Hid (Good (((atoms (bs s)).drop a).take b)) := Lib.hid (fun x hx => atoms_good _ x (List.mem_of_mem_drop (List.mem_of_mem_take hx)))
      clear hp hab
      go_enter Try.func12, Try.ntmps12
      go_wp2_with fail
      refine (ratoms_any s _ hs).mono ?_
      rintro e w1 ⟨v, rfl, hrow, hk⟩
      have HK := Lib.hid hk
      obtain ⟨v2, hr2, hsl⟩ := run_part (Reads.of_row hrow) (lo := a) (hi := a + b) (by omega) hla (a := (a : Int)) (b := (a : Int) + (b : Int)) rfl (by omega)
      rw [Nat.add_sub_cancel_left] at hr2
      have HR2 := Lib.hid hr2
      rw [HL.out] at hrow
      obtain ⟨ao, c, rfl, _⟩ := own_slice hrow
      clear hrow hk hr2 hla
      have e1 : (a : Int) ≤ m := by omega
      have e2 : (b : Int) ≤ (m : Int) - a := by omega
      go_wp2_with fail
      refine (rof_any HR2.out HG.out hlen).mono ?_
      rintro e w2 ⟨rfl, hk2⟩
      rw [HO.out]
      have HK2 := Lib.hid hk2
      clear hk2
      go_wp2
      go_ret2
      exact ⟨pair_of HA.out, HK.out.trans HK2.out⟩
  · have HA := Lib.hid (subS_torn (i := i) (n := n) ht)
    rw [ht] at ht1
    go_enter Try.func12, Try.ntmps12
    go_wp2
    go_ret2
    exact ⟨pair_of HA.out, Fr.refl _ _⟩
end Go.Proofs.Ytbpkfaoaphegnaa
