/- SetFor' walk. -/
import Derived.Test.YtdapklamemalgaaAnds
namespace Go.Proofs.Ytdapklamemalgaa
set_option linter.unusedVariables false
set_option linter.unusedSimpArgs false
open Go.RowKit Go.ChangeShapes Go.WideShapes


theorem held_call {wr W w' : World} {g o2 : Nat} {v : Value} (hf : Hid (Kept W w')) (h : Hid (Kept wr W) ∧ W.cell? ⟨g, o2, none⟩ = some v) : Hid (Kept wr w') ∧ w'.cell? ⟨g, o2, none⟩ = some v :=
  ⟨Lib.hid (h.1.out.trans hf.out), hf.out.cell h.2 (fun x => x)⟩
theorem held_alloc {wr W : World} {g o2 : Nat} {v : Value} {o : Obj} (h : Hid (Kept wr W) ∧ W.cell? ⟨g, o2, none⟩ = some v) : Hid (Kept wr (W.alloc o)) ∧ (W.alloc o).cell? ⟨g, o2, none⟩ = some v :=
  held_call (Lib.hid (Fr.of_alloc _ _ _)) h

set_option maxHeartbeats 4000000 in
theorem setFor_walk {w : World} (v1 : Value) (h1 : SetAt w v1) (v2 : Value) (h2 : SetAt w v2) :
    Calls Try.prog 7 #[v1, v2] w fun e w' => e = .returned (.bool true) ∧ Fr (fun _ => False) w w' := by
  obtain ⟨a, ha, hsa, hla⟩ := h1
  have HA := Lib.hid ha
  have HSA := Lib.hid hsa
  have HLA := Lib.hid hla
  obtain ⟨ao, ac, rfl, _, _⟩ := ha
  rw [wcells_len] at HA ⊢
  obtain ⟨na, hna⟩ : ∃ n, n = a.length := ⟨_, rfl⟩
  rw [← hna] at HA ⊢
  have HNA := Lib.hid hna
  clear hna hsa hla
  obtain ⟨b, hb, hsb, hlb⟩ := h2
  have HB := Lib.hid hb
  have HSB := Lib.hid hsb
  have HLB := Lib.hid hlb
  obtain ⟨bo, bc, rfl, _, _⟩ := hb
  rw [wcells_len] at HB ⊢
  obtain ⟨nb, hnb⟩ : ∃ n, n = b.length := ⟨_, rfl⟩
  rw [← hnb] at HB ⊢
  have HNB := Lib.hid hnb
  clear hnb hsb hlb
  go_enter Try.func7, Try.ntmps7
  go_wp2_with fail
  refine (awake_any w).mono ?_
  rintro e w1 ⟨rfl, hk⟩
  have HK := Lib.hid hk
  clear hk
  go_wp2_with fail
  refine (large_any (ls := [a, b]) (g := w1.heap.size) (vs := [.slice ao na ac, .slice bo nb bc]) (heap_alloc_new w1 _) (sets_two ((HA.out.new HK.out).new (Fr.of_alloc _ _ _)) ((HB.out.new HK.out).new (Fr.of_alloc _ _ _)) HLA.out HLB.out HSA.out HSB.out) (by simp)).mono ?_
  rintro e w2 ⟨rfl, rfl⟩
  replace HK := Lib.hid (HK.out.trans (Fr.of_alloc (fun _ => False) w1 (Obj.cells #[.slice ao na ac, .slice bo nb bc] 23)))
  cases hlg : largeB [a, b]
  rotate_left
  · clear hlg
    go_wp2
    go_ret
    exact ⟨rfl, HK.out⟩
  have FA := Lib.hid (fits_two hlg).1
  have FB := Lib.hid (fits_two hlg).2
  clear hlg HSA HLA HSB HLB
  generalize w1.alloc (Obj.cells #[.slice ao na ac, .slice bo nb bc] 23) = w2 at *
  replace HA := Lib.hid (HA.out.new HK.out)
  replace HB := Lib.hid (HB.out.new HK.out)
  go_wp2_with fail
  refine (may_set HA.out FA.out.len FA.out.max).mono ?_
  rintro e wm ⟨rfl, hk⟩
  replace HK := Lib.hid (HK.out.trans hk)
  replace HA := Lib.hid (HA.out.new hk)
  replace HB := Lib.hid (HB.out.new hk)
  clear hk
  cases hma : mayL a
  · clear hma
    go_wp2
    go_ret
    exact ⟨rfl, HK.out⟩
  have MA := Lib.hid hma
  clear hma
  go_wp2_with fail
  refine (may_set HB.out FB.out.len FB.out.max).mono ?_
  rintro e wm ⟨rfl, hk⟩
  replace HK := Lib.hid (HK.out.trans hk)
  replace HA := Lib.hid (HA.out.new hk)
  replace HB := Lib.hid (HB.out.new hk)
  clear hk
  cases hmb : mayL b
  · clear hmb
    go_wp2
    go_ret
    exact ⟨rfl, HK.out⟩
  have MB := Lib.hid hmb
  clear hmb
  have hba : na ≤ 16 := by have := (mayL_iff.1 MA.out).1; have := HNA.out; omega
  have hbb : nb ≤ 16 := by have := (mayL_iff.1 MB.out).1; have := HNB.out; omega
  obtain ⟨s, e1, hs⟩ : ∃ x e, forL a b = (x, e) := ⟨_, _, rfl⟩
  obtain ⟨q, e2, hq⟩ : ∃ x e, quoteL a b = (x, e) := ⟨_, _, rfl⟩
  have E1 := Lib.hid hs
  have E2 := Lib.hid hq
  clear hs hq
  go_wp2_with fail
  refine (for_any HA.out HB.out FA.out.len FB.out.len FA.out.max FB.out.max).mono ?_
  rintro e wc ⟨vHS, rfl, ho, hk⟩
  rw [E1.out] at ho ⊢
  replace HK := Lib.hid (HK.out.trans hk)
  replace HA := Lib.hid (HA.out.new hk)
  replace HB := Lib.hid (HB.out.new hk)
  clear hk
  have HS := Lib.hid (Reads.of_row ho).any
  obtain ⟨so, sc, hvs, _⟩ := own_slice ho
  subst hvs
  clear ho
  go_wp2_with fail
  refine (quote_any HA.out HB.out FA.out.len FB.out.len FA.out.max FB.out.max).mono ?_
  rintro e wc ⟨vHQ, rfl, ho, hk⟩
  rw [E2.out] at ho ⊢
  replace HK := Lib.hid (HK.out.trans hk)
  replace HA := Lib.hid (HA.out.new hk)
  replace HB := Lib.hid (HB.out.new hk)
  replace HS := Lib.hid (HS.out.new hk)
  clear hk
  have HQ := Lib.hid (Reads.of_row ho).any
  obtain ⟨qo, qc, hvq, _⟩ := own_slice ho
  subst hvq
  clear ho
  by_cases h1 : e1 = 0
  rotate_left
  · obtain rfl := forL_err E1.out h1
    have g1 := bne_zero h1
    clear h1
    go_wp2_with fail
    go_ret
    exact ⟨rfl, HK.out⟩
  subst h1
  obtain ⟨q', d, hok⟩ := for_zero MA.out MB.out E1.out
  have hqq := hok.fq
  rw [E2.out] at hqq
  obtain ⟨rfl, rfl⟩ : q = q' ∧ e2 = 0 := by simpa using hqq
  have OK := Lib.hid hok
  have FQ := Lib.hid (fits_may (quote_zero MA.out MB.out E2.out).2.2)
  have FD := Lib.hid (fits_may (quote_zero may_d MB.out OK.out.fd).2.2)
  have FS := Lib.hid (fits_may (and_zero (quote_zero MA.out MB.out E2.out).2.2 (quote_zero may_d MB.out OK.out.fd).2.2 OK.out.all).2)
  have hls : s.length ≤ 16 := by have := forL_len a b; rw [E1.out] at this; exact this
  have hlq : q.length ≤ 16 := by have := quoteL_len a b; rw [E2.out] at this; exact this
  have hcount : ¬ (q.length : Int) + (nb : Int) < (s.length : Int) := by have := OK.out.count; have := HNB.out; omega
  clear hok hqq
  generalize hns : s.length = ns at hcount HS hls ⊢
  generalize hnq : q.length = nq at hcount HQ hlq ⊢
  clear hns hnq
  go_wp2_with fail
  refine (within_any HQ.out HS.out FQ.out.len FS.out.len FQ.out.max FS.out.max).mono ?_
  rintro e wt ⟨rfl, hk⟩
  rw [OK.out.within]
  replace HK := Lib.hid (HK.out.trans hk)
  replace HA := Lib.hid (HA.out.new hk)
  replace HB := Lib.hid (HB.out.new hk)
  replace HS := Lib.hid (HS.out.new hk)
  replace HQ := Lib.hid (HQ.out.new hk)
  clear hk
  go_wp2_with fail
  clear hcount
  go_loopw [68] (fun i wr => ∃ k : Nat, k ≤ nb ∧ i = .int .i64 k ∧ Hid (Kept wt wr)) (fun i _ => nb - (intOf i).toNat)
  case atStart => exact ⟨0, by omega, rfl, Lib.hid (Fr.refl _ _)⟩
  case round =>
    obtain ⟨k, hk, rfl, hkr⟩ := hrel
    by_cases hlt : k < nb
    · have h1 : (k : Int) < nb := by omega
      obtain ⟨y, hy⟩ : ∃ y, b[k]? = some y := ⟨_, List.getElem?_eq_getElem (by have := HNB.out; omega)⟩
      have hbv := HB.out
      obtain ⟨bo', bc', hb1, _, hbx⟩ := hbv
      obtain ⟨gb, ob, hb2, _, hcell0⟩ := hbx k _ (wcells_get hy)
      cases hb1
      cases hb2
      have hcell := hkr.out.cell hcell0 (fun x => x)
      have HCW : Hid (∀ W, Kept wr W → W.cell? ⟨gb, ob + k, none⟩ = some (.string y)) := Lib.hid (fun W hW => hW.cell hcell (fun x => x))
      have hys := (mayS_size (may_words MB.out y (List.mem_of_getElem? hy))).2.2.1
      have j1 : ∀ wx, (Op.stringOp .add (ofS [1]) y).run Try.prog wx = .ok (.string (ofS [1] ++ y)) wx := fun wx => run_string_add_sum wx (ofS [1]) y (by rw [ofS_size]; simp; omega)
      have HZ := Lib.hid (OK.out.has y (List.mem_of_getElem? hy))
      have HZS : Hid ((ofS [1] ++ y).size ≤ maxLen) := Lib.hid (by rw [ByteArray.size_append, ofS_size]; simp [maxLen]; omega)
      have HG := Lib.hid (good_one (x := 1) (by omega) (by omega))
      clear hbx hcell0 hy hys
      generalize ofS [1] ++ y = z at *
      go_upto_region 14 with fail
      go_cut [10] (fun t10 wx => t10 = .string z ∧ Hid (Kept wr wx))
      case first =>
        have hS0 : Hid (Kept wr wr) ∧ wr.cell? ⟨gb, ob + k, none⟩ = some (.string y) := ⟨Lib.hid (Fr.refl _ _), hcell⟩
        have hD0 : Hid (Kept wr wr.drew) := Lib.hid (Fr.of_drew _ _)
        clear hcell HCW
        go_region_held3 (fun w' => Hid (Kept wr w') ∧ w'.cell? ⟨gb, ob + k, none⟩ = some (.string y)) (first | assumption | exact held_call (by assumption) (by assumption) | exact held_alloc (by assumption))
          (first
            | (go_at_call 33; refine (rof_any (l := [1]) (by exact reads_built (cs := #[.int .u16 1]) (heap_alloc_new _ _)) HG.out (by simp)).mono ?_; rintro e w9 ⟨rfl, hk9⟩; have HK9 := Lib.hid hk9; clear hk9))
        all_goals
          go_wp2_with fail
          go_meet
          exact ⟨rfl, (by assumption : Hid (Kept wr _) ∧ _).1⟩
      case rest =>
      obtain ⟨rfl, hkx⟩ := hcut
      have hsr := Lib.hid (HS.out.new (hkr.out.trans hkx.out))
      clear hcell j1
      go_wp2_with fail
      refine (has_any hsr.out FS.out.len FS.out.max HZS.out).mono ?_
      rintro e w' ⟨rfl, rfl⟩
      rw [HZ.out]
      go_wp2_with fail
      go_roundw
      case rel => exact ⟨k + 1, by omega, by go_num, Lib.hid (hkr.out.trans hkx.out)⟩
      case measure => simp [intOf]; omega
    · have HKR := Lib.hid (HK.out.trans hkr.out)
      have hs2 := Lib.hid (HS.out.new hkr.out)
      have hq2 := Lib.hid (HQ.out.new hkr.out)
      have hb2 := Lib.hid (HB.out.new hkr.out)
      clear hkr
      have HG := Lib.hid (good_one (x := 1) (by omega) (by omega))
      have HR := Lib.hid (reads_built (heap_alloc_new wr (Obj.cells #[.int .u16 1] 25)))
      go_wp2_with fail
      refine (rof_any (l := [1]) HR.out HG.out (by simp)).mono ?_
      rintro e wx ⟨rfl, hk2⟩
      have hk3 : Kept wr wx := (Fr.of_alloc _ _ _).trans hk2
      replace HKR := Lib.hid (HKR.out.trans hk3)
      replace hs2 := Lib.hid (hs2.out.new hk3)
      replace hq2 := Lib.hid (hq2.out.new hk3)
      replace hb2 := Lib.hid (hb2.out.new hk3)
      clear hk2 hk3 HR
      have HR2 := Lib.hid (reads_built (heap_alloc_new wx (Obj.cells #[.string (ofS [1])] 36))).any
      go_wp2_with fail
      refine (quote_any (a := [ofS [1]]) HR2.out (hb2.out.new (Fr.of_alloc _ _ _)).any (by simp) FB.out.len (small_one 1) FB.out.max).mono ?_
      rintro e wy ⟨vd, rfl, ho, hk4⟩
      rw [OK.out.fd] at ho ⊢
      have hk5 : Kept wx wy := (Fr.of_alloc _ _ _).trans hk4
      replace HKR := Lib.hid (HKR.out.trans hk5)
      replace hs2 := Lib.hid (hs2.out.new hk5)
      replace hq2 := Lib.hid (hq2.out.new hk5)
      have hd2 := Lib.hid (Reads.of_row ho).any
      clear hk4 hk5 ho HR2
      go_wp2_with fail
      refine (and_any hq2.out hd2.out FQ.out.len FD.out.len FQ.out.max FD.out.max).mono ?_
      rintro e wz ⟨va, rfl, ho, hk6⟩
      rw [OK.out.all] at ho ⊢
      replace HKR := Lib.hid (HKR.out.trans hk6)
      replace hs2 := Lib.hid (hs2.out.new hk6)
      have ha2 := Lib.hid (Reads.of_row ho).any
      clear hk6 ho
      go_wp2_with fail
      refine (equal_kept ha2.out hs2.out FS.out.len FS.out.len).mono ?_
      rintro e we ⟨rfl, hk7⟩
      rw [eq_self]
      replace HKR := Lib.hid (HKR.out.trans hk7)
      clear hk7
      go_wp2_with fail
      go_ret
      exact ⟨rfl, HKR.out⟩
end Go.Proofs.Ytdapklamemalgaa
