/- WordTells: the walk. -/
import Derived.Test.YtbpkfaoaphegnaaRsub
import Derived.Test.YtbpkfaoaphegnaaRef
import Derived.Test.YtbpkfaoaphegnaaRfind
import Derived.Test.YtbpkfaoaphegnaaAwake
namespace Go.Proofs.Ytbpkfaoaphegnaa
set_option linter.unusedVariables false
open Go.RowKit

set_option maxHeartbeats 8000000 in
set_option maxRecDepth 100000 in
theorem wordTells_small (w v : ByteArray) (i n : Int) (W : World) (hw : w.size ≤ 4096) (hv : v.size ≤ 4096) (wi : (Lit.int .i64 i).wf = true) :
    Calls Try.prog 3 #[.string w, .string v, .int .i64 i, .int .i64 n] W fun e w' => e = .returned (.bool true) ∧ Fr (fun _ => False) W w' := by
  have d1 : decide (4096 < (w.size : Int)) = false := by simp; omega
  have d2 : decide (4096 < (v.size : Int)) = false := by simp; omega
  have hw0 : w.size ≤ maxLen := by unfold maxLen; omega
  have hv0 : v.size ≤ maxLen := by unfold maxLen; omega
  obtain ⟨m, hm⟩ : ∃ m, m = w.size / 2 := ⟨_, rfl⟩
  have HL : Hid ((cellsOf (atoms (bs w))).length = m) := Lib.hid (by simp [cellsOf, atoms_len, bs_len, hm])
  have HD : Hid ((w.size : Int) / 2 = (m : Int)) := Lib.hid (by omega)
  have hla : (atoms (bs w)).length ≤ 100000 := by rw [atoms_len, bs_len]; omega

  have hmm : ((m : Int) == (m : Int)) = true := by simp
  obtain ⟨x, hx⟩ : ∃ x, mayS w = x := ⟨_, rfl⟩
  have HM := Lib.hid hx
  obtain ⟨y, hy⟩ : ∃ y, atS w i = y := ⟨_, rfl⟩
  have HT := Lib.hid hy
  obtain ⟨p, hp⟩ : ∃ p, subS w i n = p := ⟨_, rfl⟩
  have HP := Lib.hid hp
  obtain ⟨p1, p2⟩ := p
  obtain ⟨z, hz⟩ : ∃ z, lessS w v = z := ⟨_, rfl⟩
  have HS := Lib.hid hz
  have hyy : (y == y) = true := by simp
  have hxx : (x == x) = true := by simp
  have hzz : (z == z) = true := by simp
  have hpp : (p1.toList == p1.toList) = true := by simp
  have hpp2 : (p2 == p2) = true := by simp
  clear hm hx hy hp hz
  go_enter Try.func3, Try.ntmps3
  go_wp2_with fail
  refine (awake_any _).mono ?_
  rintro e w1 ⟨rfl, hk⟩
  have HK := Lib.hid hk
  clear hk
  go_wp2_with fail
  refine (sub_any w i n _ hw0 wi).mono ?_
  rintro e w' ⟨rfl, rfl⟩
  rw [HP.out]
  go_wp2_with fail
  refine (rsub_any w i n _ (by omega) wi).mono ?_
  rintro e w' ⟨rfl, hk⟩
  replace HK := Lib.hid (HK.out.trans hk)
  clear hk
  rw [HP.out]
  go_wp2_with fail
  refine (may_any w _ hw0).mono ?_
  rintro e w' ⟨rfl, hk⟩
  replace HK := Lib.hid (HK.out.trans hk)
  clear hk
  rw [HM.out]
  go_wp2_with fail
  refine (rmay_any w _ (by omega)).mono ?_
  rintro e w' ⟨rfl, hk⟩
  replace HK := Lib.hid (HK.out.trans hk)
  clear hk
  rw [HM.out]
  go_wp2_with fail
  refine (len_any w _ hw0).mono ?_
  rintro e w' ⟨rfl, rfl⟩
  rw [HD.out]
  go_wp2_with fail
  refine (ratoms_any w _ (by omega)).mono ?_
  rintro e w' ⟨v1, rfl, hrow, hk⟩
  replace HK := Lib.hid (HK.out.trans hk)
  rw [HL.out] at hrow
  obtain ⟨ao, c, rfl, _⟩ := own_slice hrow
  clear hrow hk
  go_wp2_with fail
  refine (at_kept w i _ hw0).mono ?_
  rintro e w' ⟨rfl, hk⟩
  replace HK := Lib.hid (HK.out.trans hk)
  clear hk
  rw [HT.out]
  go_wp2_with fail
  refine (rat_any w i _ (by omega)).mono ?_
  rintro e w' ⟨rfl, hk⟩
  replace HK := Lib.hid (HK.out.trans hk)
  clear hk
  rw [HT.out]
  go_wp2_with fail
  refine (atoms_any w _ (by omega)).mono ?_
  rintro e w' ⟨v2, rfl, hrow, hk⟩
  replace HK := Lib.hid (HK.out.trans hk)
  have HR2 := Lib.hid (Reads.of_row hrow)
  clear hrow hk
  go_wp2_with fail
  refine (ratoms_any w _ (by omega)).mono ?_
  rintro e w' ⟨v3, rfl, hrow, hk⟩
  replace HK := Lib.hid (HK.out.trans hk)
  replace HR2 := Lib.hid (HR2.out.new hk)
  have HR3 := Lib.hid (Reads.of_row hrow)
  clear hrow hk
  go_wp2_with fail
  refine (same_any HR2.out HR3.out hla hla).mono ?_
  rintro e w' ⟨rfl, q, rfl⟩
  rw [show decide (atoms (bs w) = atoms (bs w)) = true from by simp]
  replace HK := Lib.hid (HK.out.trans (Fr.of_drewN _ _ q))
  clear HR2 HR3
  go_wp2_with fail
  refine (find_any w v i _ (by omega) (by omega) wi).mono ?_
  rintro e w' ⟨r1, rfl, hr1, hk⟩
  replace HK := Lib.hid (HK.out.trans hk)
  have HR1 := Lib.hid hr1
  clear hr1 hk
  go_wp2_with fail
  refine (rfind_any w v i _ (by omega) (by omega) wi).mono ?_
  rintro e w' ⟨r2, rfl, hr2, hk⟩
  replace HK := Lib.hid (HK.out.trans hk)
  obtain rfl := HR1.out.unique hr2
  clear hr2 hk HR1
  have q1 : (r1 == r1) = true := by simp
  go_wp2_with fail
  refine (less_any w v _ hw0 hv0).mono ?_
  rintro e w' ⟨rfl, rfl⟩
  rw [HS.out]
  go_wp2_with fail
  refine (rless_any w v _ hw0 hv0).mono ?_
  rintro e w' ⟨rfl, q, rfl⟩
  rw [HS.out]
  replace HK := Lib.hid (HK.out.trans (Fr.of_drewN _ _ q))
  go_wp2_with fail
  go_ret
  exact ⟨rfl, HK.out⟩

set_option maxHeartbeats 1000000 in
theorem wordTells_walk {w : World} (a : ByteArray) (ha : a.size ≤ maxLen) (b : ByteArray) (hb : b.size ≤ maxLen) (i : Int) (wi : (Lit.int .i64 i).wf = true) (n : Int) (wn : (Lit.int .i64 n).wf = true) :
    Calls Try.prog 3 #[.string a, .string b, .int .i64 i, .int .i64 n] w fun e w' => e = .returned (.bool true) ∧ Fr (fun _ => False) w w' := by
  unfold maxLen at ha hb
  by_cases la : 4096 < a.size
  · have d1 : decide (4096 < (a.size : Int)) = true := by simp; omega
    go_enter Try.func3, Try.ntmps3
    go_wp2_with fail
    refine (awake_any _).mono ?_
    rintro e w1 ⟨rfl, hk⟩
    have HK := Lib.hid hk
    clear hk
    go_wp2_with fail
    go_ret
    exact ⟨rfl, HK.out⟩
  · have d1 : decide (4096 < (a.size : Int)) = false := by simp; omega
    by_cases lb : 4096 < b.size
    · have d2 : decide (4096 < (b.size : Int)) = true := by simp; omega
      go_enter Try.func3, Try.ntmps3
      go_wp2_with fail
      refine (awake_any _).mono ?_
      rintro e w1 ⟨rfl, hk⟩
      have HK := Lib.hid hk
      clear hk
      go_wp2_with fail
      go_ret
      exact ⟨rfl, HK.out⟩
    · exact wordTells_small a b i n w (by omega) (by omega) wi
end Go.Proofs.Ytbpkfaoaphegnaa
