/- Contracts and lemmas: R3 -/
import Derived.Test.YtfbmlacklhiecaaR2
import Derived.Test.YtfbmlacklhiecaaP4
namespace Go.Proofs.Ytfbmlacklhiecaa
set_option linter.unusedVariables false
set_option linter.unusedSimpArgs false
open Go.RowKit Go.ChangeShapes Go.WideShapes
set_option maxRecDepth 20000

open Go.RowKit Go.ChangeShapes Go.WideShapes
set_option maxRecDepth 20000
theorem rodone_any {b : Nat} {s : Option (List UInt8)} {w : World} (h : ROutAt b s w) :
    Calls Try.prog 19 #[.pointer (some ⟨b, 0, none⟩)] w (KeptPost (.tuple #[.string (oDone s).1, .int .i64 (oDone s).2]) w) := by
  obtain ⟨r, hh, hr⟩ := h
  have c1 : w.cell? ⟨b, 1, none⟩ = some (.bool s.isNone) := by rw [Lib.cell_of_heap hh]; rfl
  have c0 : w.cell? ⟨b, 0, none⟩ = some (.string r) := by rw [Lib.cell_of_heap hh]; rfl
  cases s with
  | none =>
    simp only [Option.isNone_none] at c1
    clear hh hr
    go_enter Try.func19, Try.ntmps19
    go_wp2
    go_ret2
    exact ⟨rfl, Fr.refl _ _⟩
  | some l =>
    simp only [Option.isNone_some] at c1
    have HE : Hid (r = ⟨l.toArray⟩) := Lib.hid (bs_inj (hr l rfl))
    clear hh hr
    go_enter Try.func19, Try.ntmps19
    go_wp2
    go_ret2
    exact ⟨by rw [oDone, ← HE.out]; rfl, Fr.refl _ _⟩
/-- the block of the document's In -/
def RBlk (b : Nat) (x : ByteArray) (k : Nat) (d : Bool) (w : World) : Prop := w.heap[b]? = some (.cells #[.string x, .int .i64 k, .bool d] 50 (0, 0))
theorem RBlk.c0 {b : Nat} {x : ByteArray} {k : Nat} {d : Bool} {w : World} (h : RBlk b x k d w) : w.cell? ⟨b, 0, none⟩ = some (.string x) := by rw [Lib.cell_of_heap h]; rfl
theorem RBlk.c1 {b : Nat} {x : ByteArray} {k : Nat} {d : Bool} {w : World} (h : RBlk b x k d w) : w.cell? ⟨b, 1, none⟩ = some (.int .i64 k) := by rw [Lib.cell_of_heap h]; rfl
theorem RBlk.c2 {b : Nat} {x : ByteArray} {k : Nat} {d : Bool} {w : World} (h : RBlk b x k d w) : w.cell? ⟨b, 2, none⟩ = some (.bool d) := by rw [Lib.cell_of_heap h]; rfl
theorem RBlk.fz {b : Nat} {x : ByteArray} {k : Nat} {d : Bool} {w : World} (h : RBlk b x k d w) (j : Nat) : w.frozen? ⟨b, j, none⟩ = false := Lib.frozen_of_heap h j
theorem RBlk.go {b : Nat} {x : ByteArray} {k : Nat} {d : Bool} {w : World} (h : RBlk b x k d w) (j : Nat) (v : Value) (hv : v = .int .i64 j) : RBlk b x j d (w.setCell ⟨b, 1, none⟩ v) := by
  subst hv; unfold RBlk; rw [blockSet h]; rfl
theorem RBlk.bad {b : Nat} {x : ByteArray} {k : Nat} {d : Bool} {w : World} (h : RBlk b x k d w) (d' : Bool) : RBlk b x k d' (w.setCell ⟨b, 2, none⟩ (.bool d')) := by
  unfold RBlk; rw [blockSet h]; rfl
theorem RBlk.none {b : Nat} {x : ByteArray} {k : Nat} {w : World} (h : RBlk b x k true w) (hk : k ≤ x.size) : RInAt b x Option.none w := ⟨k, h, hk, fun l hl => by cases hl⟩
theorem RBlk.some {b : Nat} {x : ByteArray} {k : Nat} {w : World} (h : RBlk b x k false w) (hk : k ≤ x.size) : RInAt b x (Option.some ((bs x).drop k)) w := ⟨k, h, hk, fun l hl => by cases hl; rfl⟩
theorem RBlk.kept {b : Nat} {x : ByteArray} {k : Nat} {d : Bool} {w w' : World} (h : RBlk b x k d w) (hf : Kept w w') : RBlk b x k d w' := by
  unfold RBlk; rw [hf.block b (heap_lt h) (fun x => x)]; exact h
theorem bs_drop (x : ByteArray) (k : Nat) (h : k < x.size) : (bs x).drop k = x[k] :: (bs x).drop (k + 1) := by
  rw [List.drop_eq_getElem_cons (by rw [bs_len]; exact h)]; rfl
theorem iNum_of {l : List UInt8} {most : Int} {n : Nat} {r : List UInt8} (h : numR 9 0 0 l = Option.some (n, r)) (h1 : (n : Int) ≤ most) (h2 : (n : Int) ≤ 4611686018427387904) : iNum (Option.some l) most = ((n : Int), Option.some r) := by
  simp only [iNum, Option.bind_some, h]; rw [if_pos ⟨h1, h2⟩]
theorem iNum_over {l : List UInt8} {most : Int} {n : Nat} {r : List UInt8} (h : numR 9 0 0 l = Option.some (n, r)) (h1 : ¬ ((n : Int) ≤ most ∧ (n : Int) ≤ 4611686018427387904)) : iNum (Option.some l) most = (0, Option.none) := by
  simp only [iNum, Option.bind_some, h]; rw [if_neg h1]
theorem iNum_not {l : List UInt8} {most : Int} (h : numR 9 0 0 l = Option.none) : iNum (Option.some l) most = (0, Option.none) := by
  simp only [iNum, Option.bind_some, h]
set_option maxHeartbeats 4000000 in
theorem rinum_any {b : Nat} {x : ByteArray} {s : Option (List UInt8)} {w : World} (most : Int) (hm0 : -9223372036854775808 ≤ most) (hm1 : most ≤ 9223372036854775807) (hx : x.size ≤ 100000) (h : RInAt b x s w) :
    Calls Try.prog 22 #[.pointer (some ⟨b, 0, none⟩), .int .i64 most] w (RInPost b x (.int .i64 (iNum s most).1) (iNum s most).2 w) := by
  have H0 := Lib.hid h
  obtain ⟨k0, hh, hk0, hl⟩ := h
  cases s with
  | none =>
    have c2 := RBlk.c2 hh
    simp only [Option.isNone_none] at c2
    clear hh hl
    go_enter Try.func22, Try.ntmps22
    go_wp2
    go_ret
    exact ⟨rfl, H0.out, Fr.refl _ _⟩
  | some l =>
    simp only [Option.isNone_some] at hh
    have c2 := RBlk.c2 hh
    have HB := Lib.hid (show RBlk b x k0 false w from hh)
    have HL := Lib.hid (hl l rfl)
    have HK := Lib.hid hk0
    clear hh hl hk0
    go_enter Try.func22, Try.ntmps22
    go_wp2_with fail
    go_loopw [5, 6, 7] (fun a p i wr => ∃ (k n at0 : Nat) (P : Int), k ≤ 9 ∧ i = .int .i64 k ∧ a = .int .i64 n ∧ p = .int .i64 P ∧ Hid (n < 128 ^ k) ∧ Hid (k < 9 → P = ((128 ^ k : Nat) : Int)) ∧ Hid (numR 9 0 0 l = numR (9 - k) k n ((bs x).drop at0)) ∧ at0 ≤ x.size ∧ Hid (RBlk b x at0 false wr ∧ Fr (fun k => k = b) w wr)) (fun _ _ i _ => 9 - (intOf i).toNat)
    case atStart => exact ⟨0, 0, k0, 1, by omega, rfl, rfl, rfl, Lib.hid (by decide), Lib.hid (fun _ => rfl), Lib.hid (by rw [HL.out]), HK.out, Lib.hid ⟨HB.out, Fr.refl _ _⟩⟩
    case round =>
      obtain ⟨k, n, at0, P, hk, rfl, rfl, rfl, hn, hP, hs, hat, hr⟩ := hrel
      have z0 := hr.out.1.c0
      have z1 := hr.out.1.c1
      have z2 := hr.out.1.c2
      have f1 := hr.out.1.fz 1
      have f2 := hr.out.1.fz 2
      clear c2
      by_cases hlt : k < 9
      · have h1 : (k : Int) < 9 := by omega
        by_cases hend : x.size ≤ at0
        · have q1 : decide (x.size ≤ at0) = true := by simpa using hend
          have HE : Hid (iNum (some l) most = (0, none)) := Lib.hid (by
            have e : numR 9 0 0 l = none := by
              rw [hs.out, List.drop_eq_nil_of_le (by rw [bs_len]; exact hend)]
              obtain ⟨f, hf⟩ : ∃ f, 9 - k = f + 1 := ⟨8 - k, by omega⟩
              rw [hf]; rfl
            exact iNum_not e)
          go_wp2_with fail
          go_quiet (fail)
          have HF : Hid (RInPost b x (.int .i64 (iNum (some l) most).1) (iNum (some l) most).2 w (.returned (.int .i64 0)) ((wr.drewN nq).setCell ⟨b, 2, none⟩ (.bool true))) := Lib.hid (by
            rw [HE.out]
            exact ⟨rfl, ((hr.out.1.kept (Fr.of_drewN _ _ _)).bad true).none hat, (hr.out.2.trans (Fr.of_drewN _ _ _)).trans (Fr.of_setCell _ ⟨b, 2, none⟩ _)⟩)
          go_wp2
          go_ret
          exact HF.out
        · have q1 : decide (x.size ≤ at0) = false := by simp; omega
          have hat2 : at0 < x.size := by omega
          have x1 : ∀ wx, (Instr.index 9 (.string x) (.int .i64 at0)).run Try.prog wx = .ok (.int .u8 ((x[at0]).toNat : Int)) wx := fun wx => by
            rw [run_index_string wx 9 x _ _ Try.underlying9, dif_pos ⟨by omega, by omega⟩]
            simp
          have HD := Lib.hid (bs_drop x at0 hat2)
          generalize x[at0] = c at *
          have hcl := c.toNat_lt
          go_wp2_with fail
          go_quiet (fail)
          have HR1 := Lib.hid (And.intro (hr.out.1.kept (Fr.of_drewN _ _ nq)) (hr.out.2.trans (Fr.of_drewN _ _ nq)))
          clear z0 z1 z2 f1 f2
          generalize wr.drewN nq = W1 at *
          have z0 := HR1.out.1.c0
          have z1 := HR1.out.1.c1
          go_wp2_with fail
          go_quiet (fail)
          have HR2 := Lib.hid (And.intro (HR1.out.1.kept (Fr.of_drewN _ _ nq)) (HR1.out.2.trans (Fr.of_drewN _ _ nq)))
          clear z0 z1 x1 q1
          generalize W1.drewN nq = W2 at *
          have z1 := HR2.out.1.c1
          have z2 := HR2.out.1.c2
          have f1 := HR2.out.1.fz 1
          have f2 := HR2.out.1.fz 2
          have HR3 : Hid (RBlk b x (at0 + 1) false (W2.setCell ⟨b, 1, none⟩ (.int .i64 ((at0 : Int) + 1))) ∧ Fr (fun k => k = b) w (W2.setCell ⟨b, 1, none⟩ (.int .i64 ((at0 : Int) + 1)))) := Lib.hid ⟨HR2.out.1.go _ _ (by push_cast; rfl), HR2.out.2.trans (Fr.of_setCell W2 ⟨b, 1, none⟩ _)⟩
          have HBd : Hid (iNum (some l) most = (0, none) → RInPost b x (.int .i64 (iNum (some l) most).1) (iNum (some l) most).2 w (.returned (.int .i64 0)) ((W2.setCell ⟨b, 1, none⟩ (.int .i64 ((at0 : Int) + 1))).setCell ⟨b, 2, none⟩ (.bool true))) := Lib.hid (fun h => by
            rw [h]
            exact ⟨rfl, (HR3.out.1.bad true).none (by omega), HR3.out.2.trans (Fr.of_setCell _ ⟨b, 2, none⟩ _)⟩)
          obtain ⟨f, hf⟩ : ∃ f, 9 - k = f + 1 := ⟨8 - k, by omega⟩
          have HS : Hid (numR 9 0 0 l = if k ≠ 0 ∧ c = 0 then none else if c.toNat < 128 then some (n + c.toNat * 128 ^ k, (bs x).drop (at0 + 1)) else numR f (k + 1) (n + (c.toNat - 128) * 128 ^ k) ((bs x).drop (at0 + 1))) := Lib.hid (by rw [hs.out, HD.out, hf]; rfl)
          by_cases hbad : k ≠ 0 ∧ c = 0
          · obtain ⟨hk1, rfl⟩ := hbad
            have g1 : 0 < (k : Int) := by omega
            have HF := Lib.hid (HBd.out (iNum_not (by rw [HS.out, if_pos ⟨hk1, rfl⟩])))
            clear HBd
            go_wp2
            go_ret
            exact HF.out
          · have hPE := hP.out hlt
            have hpb := pow_bound k hlt
            have hnn := hn.out
            have hpow : 128 ^ (k + 1) = 128 * 128 ^ k := by rw [Nat.pow_succ, Nat.mul_comm]
            have hmul : c.toNat % 128 * 128 ^ k ≤ 127 * 128 ^ k := Nat.mul_le_mul_right _ (by omega)
            obtain ⟨Q, hQ⟩ : ∃ Q : Int, Q = (c.toNat : Int) % 128 * P := ⟨_, rfl⟩
            have hQ2 : Q = ((c.toNat % 128 * 128 ^ k : Nat) : Int) := by rw [hQ, hPE]; push_cast; rfl
            have hQ0 : 0 ≤ Q := by omega
            have hQ1 : Q ≤ 9151314442816847872 := by omega
            obtain ⟨M, hM⟩ : ∃ M : Nat, M = n + c.toNat % 128 * 128 ^ k := ⟨_, rfl⟩
            have hMQ : (n : Int) + Q = (M : Int) := by omega
            have hM1 : M < 128 ^ (k + 1) := by omega
            have hM2 : (M : Int) ≤ 9223372036854775807 := by omega
            have HMB := Lib.hid hM1
            have y1 : ((c.toNat : Int)).tmod 128 = (c.toNat : Int) % 128 := Int.tmod_eq_emod_of_nonneg (by omega)
            have y2 : (c.toNat : Int) % 128 * P = Q := hQ.symm
            have y3 : wrap64 Q = Q := IntWalk.wrap64_in Q (by omega)
            have y3b : IntKind.i64.wrap Q = Q := IntWalk.i64_in Q (by omega)
            have HP2 : Hid (k + 1 < 9 → P * 128 = ((128 ^ (k + 1) : Nat) : Int) ∧ wrap64 (P * 128) = P * 128) := Lib.hid (fun h8 => by
              have h9 := pow_bound (k + 1) h8
              have e : P * 128 = ((128 ^ (k + 1) : Nat) : Int) := by rw [hPE, hpow]; push_cast; omega
              exact ⟨e, IntWalk.wrap64_in _ (by rw [e]; omega)⟩)
            have HPI := Lib.hid (And.intro (show 0 ≤ P by omega) (show P ≤ 72057594037927936 by omega))
            by_cases hc : c.toNat < 128
            · have HN : Hid (numR 9 0 0 l = some (M, (bs x).drop (at0 + 1))) := Lib.hid (by
                rw [HS.out, if_neg hbad, if_pos hc, hM, Nat.mod_eq_of_lt hc])
              have hcI : (c.toNat : Int) < 128 := by omega
              clear hPE hpb hnn hpow hmul hQ hQ2 hM hM1 hs hn hP hf hat HD
              by_cases hm : (M : Int) ≤ most ∧ (M : Int) ≤ 4611686018427387904
              · have g1 : decide (most < (M : Int)) = false := by simp; omega
                have g2 : decide (4611686018427387904 < (M : Int)) = false := by simp; omega
                have HF : Hid (RInPost b x (.int .i64 (iNum (some l) most).1) (iNum (some l) most).2 w (.returned (.int .i64 M)) (W2.setCell ⟨b, 1, none⟩ (.int .i64 ((at0 : Int) + 1)))) := Lib.hid (by
                  rw [iNum_of HN.out hm.1 hm.2]
                  exact ⟨rfl, HR3.out.1.some (by omega), HR3.out.2⟩)
                by_cases hk0 : k = 0
                · subst hk0
                  clear hbad HBd
                  go_wp2
                  go_ret
                  exact HF.out
                · have hc0 : c.toNat ≠ 0 := fun h => hbad ⟨hk0, UInt8.toNat_inj.1 (by simpa using h)⟩
                  have hcp : 0 < (c.toNat : Int) := by omega
                  clear hbad HBd
                  go_wp2
                  go_ret
                  exact HF.out
              · have HF := Lib.hid (HBd.out (iNum_over HN.out hm))
                have hor : (decide (most < (M : Int)) = true) ∨ (decide (most < (M : Int)) = false ∧ decide (4611686018427387904 < (M : Int)) = true) := by
                  rcases Int.lt_or_le most M with h | h
                  · exact .inl (by simpa using h)
                  · exact .inr ⟨by simp; omega, by simp; omega⟩
                clear HBd hm
                rcases hor with g1 | ⟨g1, g2⟩
                all_goals
                  by_cases hk0 : k = 0
                  · subst hk0
                    clear hbad
                    go_wp2
                    go_ret
                    exact HF.out
                  · have hc0 : c.toNat ≠ 0 := fun h => hbad ⟨hk0, UInt8.toNat_inj.1 (by simpa using h)⟩
                    have hcp : 0 < (c.toNat : Int) := by omega
                    clear hbad
                    go_wp2
                    go_ret
                    exact HF.out
            · have HN : Hid (numR 9 0 0 l = numR (9 - (k + 1)) (k + 1) M ((bs x).drop (at0 + 1))) := Lib.hid (by
                have e : 9 - (k + 1) = f := by omega
                have e2 : c.toNat % 128 = c.toNat - 128 := by omega
                rw [HS.out, if_neg hbad, if_neg hc, hM, e, e2])
              have hcI : ¬ (c.toNat : Int) < 128 := by omega
              have hcp : 0 < (c.toNat : Int) := by omega
              clear hPE hpb hnn hpow hmul hQ hQ2 hM hM1 hs hn hP hf hat HD hbad HBd
              go_wp2_with fail
              all_goals
                go_roundw
                case rel => exact ⟨k + 1, M, at0 + 1, _, by omega, by go_num, rfl, rfl, HMB, Lib.hid (fun h8 => by first | exact (HP2.out h8).1 | (rw [(HP2.out h8).2]; exact (HP2.out h8).1)), HN, by omega, HR3⟩
                case measure => simp [intOf]; omega
      · obtain rfl : k = 9 := by omega
        have HE : Hid (iNum (some l) most = (0, none)) := Lib.hid (iNum_not (by rw [hs.out]; rfl))
        have HF : Hid (RInPost b x (.int .i64 (iNum (some l) most).1) (iNum (some l) most).2 w (.returned (.int .i64 0)) (wr.setCell ⟨b, 2, none⟩ (.bool true))) := Lib.hid (by
            rw [HE.out]
            exact ⟨rfl, (hr.out.1.bad true).none hat, hr.out.2.trans (Fr.of_setCell _ ⟨b, 2, none⟩ _)⟩)
        clear hn hP hs
        go_wp2
        go_ret
        exact HF.out

end Go.Proofs.Ytfbmlacklhiecaa
