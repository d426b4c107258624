/- Contracts and lemmas: WM -/
import Derived.Test.YtbfealhbdemhmaaGreatDoorWU
import Derived.Test.YtbfealhbdemhmaaGreatDoorN3
namespace Go.Proofs.YtbfealhbdemhmaaGreatDoor
set_option linter.unusedVariables false
set_option linter.unusedSimpArgs false
open Go.RowKit Go.ChangeShapes Go.WideShapes
set_option maxRecDepth 20000
theorem tox_map (l : List TrmB) : toX (l.map TrmB.tok) = l := by
  unfold toX
  rw [List.map_map]
  conv => rhs; rw [← List.map_id l]
  apply List.map_congr_left
  intro t _
  show (⟨t.op, t.of, strOf (bs t.name)⟩ : TrmB) = t
  rw [strOf_bs]
theorem bound_nil {s : List ByteArray} (h : (boundL s).2 ≠ 0) : (boundL s).1 = [] := by
  unfold boundL at *
  split
  · rfl
  · rename_i hc; rw [if_neg hc] at h; exact absurd rfl h
theorem and_nil {a b : List ByteArray} (h : (andL a b).2 ≠ 0) : (andL a b).1 = [] := by
  unfold andL at *
  split
  · rfl
  · rename_i hc; rw [if_neg hc] at h; exact bound_nil h
theorem quote_nil {a b : List ByteArray} (h : (quoteL a b).2 ≠ 0) : (quoteL a b).1 = [] := by
  unfold quoteL at *
  split
  · rfl
  · rename_i hc
    rw [if_neg hc] at h
    first
      | exact bound_nil h
      | (split
         · rfl
         · rename_i hd; rw [if_neg hd] at h; exact bound_nil h)
theorem for_nil {a b : List ByteArray} (h : (forL a b).2 ≠ 0) : (forL a b).1 = [] := by
  unfold forL at *
  split
  · rfl
  · rename_i hc
    rw [if_neg hc] at h
    split
    · rfl
    · rename_i hd; rw [if_neg hd] at h; exact and_nil h
theorem as_nil {a : List ByteArray} {r : Int} (h : (asL a r).2 ≠ 0) : (asL a r).1 = [] := by
  unfold asL at *
  split
  · rfl
  · rename_i hc
    rw [if_neg hc] at h
    split
    · rfl
    · rename_i hd; rw [if_neg hd] at h; exact quote_nil h
theorem opL_nil {k : Int} {a b : List ByteArray} (h : (opL k a b).2 ≠ 0) : (opL k a b).1 = [] := by
  unfold opL at *
  split
  · rename_i hc; rw [if_pos hc] at h; exact and_nil h
  · rename_i hc
    rw [if_neg hc] at h
    split
    · rename_i hd; rw [if_pos hd] at h; exact for_nil h
    · rename_i hd
      rw [if_neg hd] at h
      split
      · rename_i he; rw [if_pos he] at h; exact quote_nil h
      · rename_i he; rw [if_neg he] at h; exact as_nil h
set_option maxHeartbeats 16000000 in
theorem normmeans_walk {w : World} {x : Value} (hx : Atm.Rows6At w x) {va0 vb0 : Value} {la lb : List TrmB} (hxa : ReadsX w va0 la) (hxb : ReadsX w vb0 lb) (hla : (la.length : Int) ≤ 9223372036854775807) (hlb : (lb.length : Int) ≤ 9223372036854775807) (hN : Norm6 w) : Calls Tryz.prog 7 #[x, va0, vb0] w (KeptPost (.bool true) w) := by
  have HX := Lib.hid hx
  have HN := Lib.hid hN
  have HXA := Lib.hid hxa
  have HXB := Lib.hid hxb
  obtain ⟨aol, cl, rfl, _⟩ := hxa
  obtain ⟨bol, dl, rfl, _⟩ := hxb
  obtain ⟨v, src, rfl, _⟩ := hx
  clear hN
  have HW : Hid (Kept w (w.alloc (.cells #[v 0, v 1, v 2, v 3, v 4, v 5] 24))) := Lib.hid (Fr.of_alloc _ _ _)
  go_enter Tryz.func7, Tryz.ntmps7
  go_wp2_with fail
  refine (kawake6_any _ (HN.out.later HW.out)).mono ?_
  rintro e w1 ⟨rfl, hk1⟩
  have HK1 := Lib.hid (HW.out.trans hk1)
  have hc1 : ∀ k, k < 6 → w1.cell? ⟨w.heap.size, k, none⟩ = some (v k) := fun k hk6 => hk1.cell (Atm.box_cell w v _ hk6) (fun x => x)
  have d0 := hc1 0 (by omega)
  have d1 := hc1 1 (by omega)
  have d2 := hc1 2 (by omega)
  have d3 := hc1 3 (by omega)
  have d4 := hc1 4 (by omega)
  have d5 := hc1 5 (by omega)
  clear hc1 hk1
  go_wp2_with fail
  refine (Atm.tables_any (HX.out.later HK1.out)).mono ?_
  rintro e w2 ⟨hk2, h2⟩
  have HK2 := Lib.hid (HK1.out.trans hk2)
  clear hk2 d0 d1 d2 d3 d4 d5
  rcases h2 with ⟨B, F, B', F', L, rfl, ht, hr, hg, hnm⟩ | rfl
  rotate_left
  · go_wp2
    go_ret
    exact ⟨rfl, HK2.out⟩
  have HT := Lib.hid ht
  have HG := Lib.hid hg
  clear ht hr hg hnm
  have HA2 := Lib.hid (HXA.out.kept HK2.out)
  have HB2 := Lib.hid (HXB.out.kept HK2.out)
  have HLGA := Lib.hid (klargex_any HA2.out hla)
  have HLGB := Lib.hid (klargex_any HB2.out hlb)
  go_wp2_with fail
  refine HLGA.out.mono ?_
  rintro e w3 ⟨rfl, rfl⟩
  cases hlga : largeX la
  rotate_left
  · go_wp2
    go_ret
    exact ⟨rfl, HK2.out⟩
  go_wp2_with fail
  refine HLGB.out.mono ?_
  rintro e w3 ⟨rfl, rfl⟩
  cases hlgb : largeX lb
  rotate_left
  · go_wp2
    go_ret
    exact ⟨rfl, HK2.out⟩
  have HSA1 : Hid (∀ t ∈ la, t.name.size ≤ 1000000) := Lib.hid (fun t ht => by have := (largex_no6 hlga).2 t ht; omega)
  have HSB1 : Hid (∀ t ∈ lb, t.name.size ≤ 1000000) := Lib.hid (fun t ht => by have := (largex_no6 hlgb).2 t ht; omega)
  clear hlga hlgb
  by_cases hl9 : 90 < la.length
  · have hl9i : (90 : Int) < (la.length : Int) := by omega
    go_wp2
    go_ret
    exact ⟨rfl, HK2.out⟩
  have hl9i : ¬ (90 : Int) < (la.length : Int) := by omega
  by_cases hm9 : 90 < lb.length
  · have hm9i : (90 : Int) < (lb.length : Int) := by omega
    go_wp2
    go_ret
    exact ⟨rfl, HK2.out⟩
  have hm9i : ¬ (90 : Int) < (lb.length : Int) := by omega
  have HRX := Lib.hid (HN.out.run w2 HK2.out F B L _ la HT.out HA2.out (by omega) HSA1.out)
  go_wp2_with fail
  refine HRX.out.mono ?_
  rintro e w3 ⟨va, sa, na, qa, rfl, hra, hrda, hk3⟩
  have HRA := Lib.hid hra
  have HDA := Lib.hid hrda
  have HK3 := Lib.hid (HK2.out.trans hk3)
  have HB3 := Lib.hid (HB2.out.kept hk3)
  have HT3 := Lib.hid (HT.out.later hk3)
  clear hra hk3 HLGA HLGB HRX
  have HRY := Lib.hid (HN.out.run w3 HK3.out F B L _ lb HT3.out HB3.out (by omega) HSB1.out)
  go_wp2_with fail
  refine HRY.out.mono ?_
  rintro e w4 ⟨vb, sb, nb, qb, rfl, hrb, hrdb, hk4⟩
  have HRB := Lib.hid hrb
  have HDB := Lib.hid hrdb
  have HDA4 := Lib.hid (HDA.out.new hk4)
  have HK4 := Lib.hid (HK3.out.trans hk4)
  have HT4 := Lib.hid (HT3.out.later hk4)
  clear hrb hk4 HRY
  by_cases hqa : qa = 0
  rotate_left
  · have gq : (qa != 0) = true := by simp [hqa]
    clear hqa
    go_wp2
    go_ret
    exact ⟨rfl, HK4.out⟩
  by_cases hqb : qb = 0
  rotate_left
  · have gq : (qa != 0) = false := by simp [hqa]
    have gq2 : (qb != 0) = true := by simp [hqb]
    clear hqa hqb
    go_wp2
    go_ret
    exact ⟨rfl, HK4.out⟩
  subst hqa
  subst hqb
  obtain ⟨ea, hea1, hea2⟩ := run_ok_may HRA.out
  obtain ⟨eb, heb1, heb2⟩ := run_ok_may HRB.out
  have HEA := Lib.hid (And.intro hea1 hea2)
  have HEB := Lib.hid (And.intro heb1 heb2)
  have HMA := Lib.hid (eval_may HG.out hea1.1 hea2)
  have HMB := Lib.hid (eval_may HG.out heb1.1 heb2)
  clear hea1 hea2 heb1 heb2
  obtain ⟨aoa, caa, rfl, _⟩ := hrda
  obtain ⟨aob, cbb, hvb, _, hbc⟩ := hrdb
  subst hvb
  obtain ⟨b0, hb0⟩ : ∃ b0, sb[0]? = some b0 := by
    have := (mayL_iff.1 HMB.out).1.1
    exact ⟨_, List.getElem?_eq_getElem (by omega)⟩
  obtain ⟨gb, ob, rfl, _, hcb⟩ := hbc 0 _ (wcells_get hb0)
  rw [Nat.add_zero] at hcb
  have HCB := Lib.hid hcb
  have HB0S : Hid (b0.size ≤ 100000) := Lib.hid ((may_bounds HMB.out).2 b0 (List.mem_of_getElem? hb0))
  have HHD : Hid ((sb.head?).getD ⟨#[]⟩ = b0) := Lib.hid (by rw [List.head?_eq_getElem?, hb0]; rfl)
  have HPB : Hid (0 < (wcells sb).length) := Lib.hid (by rw [wcells_len]; exact (List.getElem?_eq_some_iff.1 hb0).1)
  clear hbc hcb hb0
  have HXA4 : Hid (∀ W, Kept w4 W → ReadsX W (.slice aol la.length cl) la) := Lib.hid (fun W hW => HXA.out.kept (HK4.out.trans hW))
  have HXB4 : Hid (∀ W, Kept w4 W → ReadsX W (.slice bol lb.length dl) lb) := Lib.hid (fun W hW => HXB.out.kept (HK4.out.trans hW))
  have hl90 : la.length ≤ 90 := by omega
  have hm90 : lb.length ≤ 90 := by omega
  have HLM : Hid (la.length ≤ 90 ∧ lb.length ≤ 90) := Lib.hid ⟨hl90, hm90⟩
  have HLA : Hid ((la.map TrmB.tok).length = la.length) := Lib.hid (by simp)
  have HLB : Hid ((lb.map TrmB.tok).length = lb.length) := Lib.hid (by simp)
  have HZN : Hid (∀ (k : Int) t, t ∈ toX ((([] ++ la.map TrmB.tok) ++ lb.map TrmB.tok) ++ [opT k]) → t.name.size ≤ 1000000) := Lib.hid (fun k t ht => by
    rw [List.nil_append, toX_append, toX_append, tox_map, tox_map] at ht
    rcases List.mem_append.1 ht with ht | ht
    · rcases List.mem_append.1 ht with ht | ht
      · exact HSA1.out t ht
      · exact HSB1.out t ht
    · simp [toX, opT] at ht
      subst ht
      exact Nat.zero_le _)
  have HZL : Hid (∀ k : Int, ((([] ++ la.map TrmB.tok) ++ lb.map TrmB.tok) ++ [opT k]).length = la.length + lb.length + 1) := Lib.hid (fun k => by simp; omega)
  clear hl9i hm9i hl9 hm9 HA2 HB2 HB3 HW HK1 HK2 HK3 HDA HT HT3 HXA HXB
  have HV0 : Hid ((w4.alloc (Obj.cells #[.int .i64 2, .int .i64 3, .int .i64 4, .int .i64 5] 3)).heap[w4.heap.size]? = some (Obj.cells #[.int .i64 2, .int .i64 3, .int .i64 4, .int .i64 5] 3 (0, 0))) := Lib.hid (heap_alloc_new _ _)
  have HV1 : Hid (Kept w4 (w4.alloc (Obj.cells #[.int .i64 2, .int .i64 3, .int .i64 4, .int .i64 5] 3))) := Lib.hid (Fr.of_alloc _ _ _)
  go_wp2
  generalize w4.alloc (Obj.cells #[.int .i64 2, .int .i64 3, .int .i64 4, .int .i64 5] 3) = w5 at HV0 HV1 ⊢
  generalize w4.heap.size = g5 at HV0 ⊢
  have HVC : Hid (∀ W, Kept w5 W → ∀ (i : Nat) (u : Value), (#[.int .i64 2, .int .i64 3, .int .i64 4, .int .i64 5] : Array Value)[i]? = some u → W.cell? ⟨g5, i, none⟩ = some u) := Lib.hid (fun W hW i u hu => hW.cell (by rw [cell_whole HV0.out]; exact hu) (fun x => x))
  have H50 : Hid (Kept w5 w5) := Lib.hid (Fr.refl _ _)
  clear HV0
  go_loopw [72] (fun iv wr => ∃ k : Nat, iv = .int .i64 k ∧ k ≤ 4 ∧ Hid (Kept w5 wr)) (fun iv _ => 4 - (intOf iv).toNat)
  case atStart => exact ⟨0, rfl, by omega, H50⟩
  case round =>
    obtain ⟨k, rfl, hk, hkr⟩ := hrel
    clear H50
    have HK4R := Lib.hid (HV1.out.trans hkr.out)
    have HKR := Lib.hid (HK4.out.trans HK4R.out)
    by_cases hlt : k < 4
    · have hk4 : k = 0 ∨ k = 1 ∨ k = 2 ∨ k = 3 := by omega
      have H0 : Hid (XPart wr (wr.alloc (Obj.cells #[] 52)) [] (.slice (some ⟨wr.heap.size, 0, none⟩) 0 0)) := Lib.hid (xpart_new wr)
      have HSRA := Lib.hid (readsX_src (P := Tryz.prog) (HXA4.out _ (HK4R.out.trans H0.out.2)) Tryz.underlying25)
      rcases hk4 with rfl | rfl | rfl | rfl
      · have ck := HVC.out wr hkr.out 0 _ rfl
        clear hlt hk
        go_wp2_with (first
          | (at_builtin; refine list_app rfl (.tmp 76) (.tmp 77) 25 25 rfl Tryz.sliceX rfl (by exact H0.out.1) rfl (by exact HSRA.out) (by unfold maxLen; simp only [List.length_nil, List.length_append, List.length_map, List.length_cons, List.nil_append]; omega) (by simp only [List.length_nil, List.length_append, List.length_map, List.length_cons, List.nil_append]; omega) (by exact H0.out.2.size) ?_; intro v6 w6 hq; have H6 : Hid (XPart wr w6 ([] ++ la.map TrmB.tok) v6) := Lib.hid (H0.out.app (by rw [tox_map, List.length_map]; exact hq)); clear hq; have HSRB := Lib.hid (readsX_src (P := Tryz.prog) (HXB4.out _ (HK4R.out.trans H6.out.2)) Tryz.underlying25))
          | (at_builtin; refine list_app rfl (.tmp 78) (.tmp 79) 25 25 rfl Tryz.sliceX rfl (by exact H6.out.1) rfl (by exact HSRB.out) (by unfold maxLen; simp only [List.length_nil, List.length_append, List.length_map, List.length_cons, List.nil_append]; omega) (by simp only [List.length_nil, List.length_append, List.length_map, List.length_cons, List.nil_append]; omega) (by exact H6.out.2.size) ?_; intro v7 w7 hq; have H7 : Hid (XPart wr w7 (([] ++ la.map TrmB.tok) ++ lb.map TrmB.tok) v7) := Lib.hid (H6.out.app (by rw [tox_map, List.length_map]; exact hq)); clear hq; have H7a := Lib.hid (H7.out.kept (Fr.of_alloc _ w7 (Obj.cells #[.int .i64 2, .int .i64 0, .string ⟨#[]⟩] 52))))
          | (at_builtin; go_must (refine list_app rfl (.tmp 80) (.tmp 83) 25 25 rfl Tryz.sliceX rfl (by exact H7a.out.1) rfl (by exact src_three Tryz.underlying25 (heap_alloc_new _ _) rfl rfl rfl) (by unfold maxLen; simp only [List.length_nil, List.length_append, List.length_map, List.length_cons, List.nil_append]; omega) (by simp only [List.length_nil, List.length_append, List.length_map, List.length_cons, List.nil_append]; omega) (by exact H7a.out.2.size) ?_; intro v8 w8 hq; have H8 : Hid (XPart wr w8 ((([] ++ la.map TrmB.tok) ++ lb.map TrmB.tok) ++ [opT 2]) v8) := Lib.hid (H7a.out.app (y := [opT 2]) hq); clear hq)))
        clear ck HSRA H0
        have hzl := HZL.out 2
        have HKW8 := Lib.hid (HKR.out.trans H8.out.2)
        have HK48 := Lib.hid (HK4R.out.trans H8.out.2)
        have HZX := Lib.hid H8.out.reads
        have HZNA := Lib.hid (HZN.out 2)
        have HZI : Hid ((toX ((([] ++ la.map TrmB.tok) ++ lb.map TrmB.tok) ++ [opT 2])).map TrmB.tok = la.map TrmB.tok ++ lb.map TrmB.tok ++ [opT 2]) := Lib.hid (by rw [toX_tok, List.nil_append])
        have HZT : Hid ((toX ((([] ++ la.map TrmB.tok) ++ lb.map TrmB.tok) ++ [opT 2])).length = la.length + lb.length + 1) := Lib.hid (by rw [toX_len, hzl])
        obtain ⟨ao8, c8, hv8, _⟩ := HZX.out.form
        subst hv8
        generalize toX ((([] ++ la.map TrmB.tok) ++ lb.map TrmB.tok) ++ [opT 2]) = Z at *
        clear hzl
        generalize hn8 : Z.length = n8 at *
        have HN8 := HZT
        have HZL8 := Lib.hid hn8
        have hn200 : n8 ≤ 181 := by have := HN8.out; omega
        clear hn8
        have HRZ := Lib.hid (HN.out.run w8 HKW8.out F B L _ Z (HT4.out.later HK48.out) HZX.out (by rw [HZL8.out]; omega) HZNA.out)
        rw [HZI.out] at HRZ
        skip
        refine HRZ.out.mono ?_
        rintro e w9 ⟨vc, sc, nc, qc, rfl, hrc, hrdc, hk9⟩
        have HRC := Lib.hid (join_run HEA.out.1 HEB.out.1 (show bindS 2 ≠ 0 by decide) (fun h5 => absurd h5 (by decide)) (by rw [HLA.out, HLB.out]; have := HLM.out; omega) HEA.out.2 HEB.out.2 hrc)
        have HDC := Lib.hid hrdc
        have HK9 := Lib.hid (HK48.out.trans hk9)
        have HKW9 := Lib.hid (HKW8.out.trans hk9)
        have HKR9 := Lib.hid hk9
        have HKA : Hid (Kept w9 (w9.alloc (Obj.cells #[] 43))) := Lib.hid (Fr.of_alloc _ _ _)
        have HDAR := Lib.hid ((HDA4.out.new HK9.out).new HKA.out)
        have HDBR := Lib.hid ((HDB.out.new HK9.out).new HKA.out)
        obtain ⟨aoc, ccc, rfl, _⟩ := hrdc
        clear hrc hk9 HRZ
        have HOP : Hid (opL 2 sa sb = andL sa sb) := Lib.hid (by unfold opL; rw [if_pos rfl])
        go_wp2_with fail
        refine (rand_any HDAR.out HDBR.out (may_bounds HMA.out).1 (may_bounds HMB.out).1 (may_bounds HMA.out).2 (may_bounds HMB.out).2).mono ?_
        rintro e w11 ⟨v2, rfl, hown2, hk11⟩
        have HK11 := Lib.hid (HKA.out.trans hk11)
        rw [← HOP.out] at *
        have HO2 := Lib.hid hown2
        obtain ⟨ao2, c2', hv2, _⟩ := own_slice hown2
        subst hv2
        clear hown2 hk11
        have hl16 := opL_len 2 sa sb
        have HNIL : Hid ((opL 2 sa sb).2 ≠ 0 → (opL 2 sa sb).1 = []) := Lib.hid opL_nil
        generalize hro : opL 2 sa sb = ro at *
        obtain ⟨rs, rq⟩ := ro
        simp only [] at HRC HNIL hl16 HO2 ⊢
        clear hro HOP
        by_cases hq0 : rq = 0
        · subst hq0
          have hc := HRC.out
          rw [if_pos rfl] at hc
          simp only [Prod.mk.injEq] at hc
          obtain ⟨rfl, rfl, rfl⟩ := hc
          have HEQ := Lib.hid (equal_any (HDC.out.new HK11.out) (Reads.of_row HO2.out) (Nat.le_trans hl16 (by omega)) (Nat.le_trans hl16 (by omega)))
          rw [decide_eq_true rfl] at HEQ
          clear HNIL hl16
          go_wp2_with fail
          refine HEQ.out.mono ?_
          rintro e w12 ⟨rfl, m, rfl⟩
          have HK12 := Lib.hid (HK11.out.trans (Fr.of_drewN (fun _ => False) w11 m))
          go_wp2
          exact ⟨⟨1, rfl, by omega, Lib.hid ((hkr.out.trans H8.out.2).trans (HKR9.out.trans HK12.out))⟩, by simp [intOf]⟩
        · have hc := HRC.out
          rw [if_neg hq0, HLA.out, HLB.out] at hc
          simp only [Prod.mk.injEq] at hc
          obtain ⟨rfl, rfl, rfl⟩ := hc
          obtain rfl := HNIL.out hq0
          have gq1 : (qc != qc) = false := by simp
          have gq : (qc != 0) = true := by simp [hq0]
          have HEQ := Lib.hid (equal_any (HDC.out.new HK11.out) (Reads.of_row HO2.out) (Nat.zero_le _) (Nat.zero_le _))
          rw [decide_eq_true rfl] at HEQ
          have p8 : (n8 : Int) - 1 = ((la.length + lb.length : Nat) : Int) := by have := HN8.out; omega
          generalize la.length + lb.length = nz at *
          have gz : ((nz : Int) != (nz : Int)) = false := by simp
          clear HNIL hl16 hq0
          go_wp2_with fail
          refine HEQ.out.mono ?_
          rintro e w12 ⟨rfl, m, rfl⟩
          have HK12 := Lib.hid (HK11.out.trans (Fr.of_drewN (fun _ => False) w11 m))
          go_wp2
          exact ⟨⟨1, rfl, by omega, Lib.hid ((hkr.out.trans H8.out.2).trans (HKR9.out.trans HK12.out))⟩, by simp [intOf]⟩
      · have ck := HVC.out wr hkr.out 1 _ rfl
        clear hlt hk
        go_wp2_with (first
          | (at_builtin; refine list_app rfl (.tmp 76) (.tmp 77) 25 25 rfl Tryz.sliceX rfl (by exact H0.out.1) rfl (by exact HSRA.out) (by unfold maxLen; simp only [List.length_nil, List.length_append, List.length_map, List.length_cons, List.nil_append]; omega) (by simp only [List.length_nil, List.length_append, List.length_map, List.length_cons, List.nil_append]; omega) (by exact H0.out.2.size) ?_; intro v6 w6 hq; have H6 : Hid (XPart wr w6 ([] ++ la.map TrmB.tok) v6) := Lib.hid (H0.out.app (by rw [tox_map, List.length_map]; exact hq)); clear hq; have HSRB := Lib.hid (readsX_src (P := Tryz.prog) (HXB4.out _ (HK4R.out.trans H6.out.2)) Tryz.underlying25))
          | (at_builtin; refine list_app rfl (.tmp 78) (.tmp 79) 25 25 rfl Tryz.sliceX rfl (by exact H6.out.1) rfl (by exact HSRB.out) (by unfold maxLen; simp only [List.length_nil, List.length_append, List.length_map, List.length_cons, List.nil_append]; omega) (by simp only [List.length_nil, List.length_append, List.length_map, List.length_cons, List.nil_append]; omega) (by exact H6.out.2.size) ?_; intro v7 w7 hq; have H7 : Hid (XPart wr w7 (([] ++ la.map TrmB.tok) ++ lb.map TrmB.tok) v7) := Lib.hid (H6.out.app (by rw [tox_map, List.length_map]; exact hq)); clear hq; have H7a := Lib.hid (H7.out.kept (Fr.of_alloc _ w7 (Obj.cells #[.int .i64 3, .int .i64 0, .string ⟨#[]⟩] 52))))
          | (at_builtin; go_must (refine list_app rfl (.tmp 80) (.tmp 83) 25 25 rfl Tryz.sliceX rfl (by exact H7a.out.1) rfl (by exact src_three Tryz.underlying25 (heap_alloc_new _ _) rfl rfl rfl) (by unfold maxLen; simp only [List.length_nil, List.length_append, List.length_map, List.length_cons, List.nil_append]; omega) (by simp only [List.length_nil, List.length_append, List.length_map, List.length_cons, List.nil_append]; omega) (by exact H7a.out.2.size) ?_; intro v8 w8 hq; have H8 : Hid (XPart wr w8 ((([] ++ la.map TrmB.tok) ++ lb.map TrmB.tok) ++ [opT 3]) v8) := Lib.hid (H7a.out.app (y := [opT 3]) hq); clear hq)))
        clear ck HSRA H0
        have hzl := HZL.out 3
        have HKW8 := Lib.hid (HKR.out.trans H8.out.2)
        have HK48 := Lib.hid (HK4R.out.trans H8.out.2)
        have HZX := Lib.hid H8.out.reads
        have HZNA := Lib.hid (HZN.out 3)
        have HZI : Hid ((toX ((([] ++ la.map TrmB.tok) ++ lb.map TrmB.tok) ++ [opT 3])).map TrmB.tok = la.map TrmB.tok ++ lb.map TrmB.tok ++ [opT 3]) := Lib.hid (by rw [toX_tok, List.nil_append])
        have HZT : Hid ((toX ((([] ++ la.map TrmB.tok) ++ lb.map TrmB.tok) ++ [opT 3])).length = la.length + lb.length + 1) := Lib.hid (by rw [toX_len, hzl])
        obtain ⟨ao8, c8, hv8, _⟩ := HZX.out.form
        subst hv8
        generalize toX ((([] ++ la.map TrmB.tok) ++ lb.map TrmB.tok) ++ [opT 3]) = Z at *
        clear hzl
        generalize hn8 : Z.length = n8 at *
        have HN8 := HZT
        have HZL8 := Lib.hid hn8
        have hn200 : n8 ≤ 181 := by have := HN8.out; omega
        clear hn8
        have HRZ := Lib.hid (HN.out.run w8 HKW8.out F B L _ Z (HT4.out.later HK48.out) HZX.out (by rw [HZL8.out]; omega) HZNA.out)
        rw [HZI.out] at HRZ
        skip
        refine HRZ.out.mono ?_
        rintro e w9 ⟨vc, sc, nc, qc, rfl, hrc, hrdc, hk9⟩
        have HRC := Lib.hid (join_run HEA.out.1 HEB.out.1 (show bindS 3 ≠ 0 by decide) (fun h5 => absurd h5 (by decide)) (by rw [HLA.out, HLB.out]; have := HLM.out; omega) HEA.out.2 HEB.out.2 hrc)
        have HDC := Lib.hid hrdc
        have HK9 := Lib.hid (HK48.out.trans hk9)
        have HKW9 := Lib.hid (HKW8.out.trans hk9)
        have HKR9 := Lib.hid hk9
        have HKA : Hid (Kept w9 (w9.alloc (Obj.cells #[] 43))) := Lib.hid (Fr.of_alloc _ _ _)
        have HDAR := Lib.hid ((HDA4.out.new HK9.out).new HKA.out)
        have HDBR := Lib.hid ((HDB.out.new HK9.out).new HKA.out)
        obtain ⟨aoc, ccc, rfl, _⟩ := hrdc
        clear hrc hk9 HRZ
        have HOP : Hid (opL 3 sa sb = forL sa sb) := Lib.hid (by unfold opL; rw [if_neg (by decide), if_pos rfl])
        go_wp2_with fail
        refine (rfor_any HDAR.out HDBR.out (may_bounds HMA.out).1 (may_bounds HMB.out).1 (may_bounds HMA.out).2 (may_bounds HMB.out).2).mono ?_
        rintro e w11 ⟨v2, rfl, hown2, hk11⟩
        have HK11 := Lib.hid (HKA.out.trans hk11)
        rw [← HOP.out] at *
        have HO2 := Lib.hid hown2
        obtain ⟨ao2, c2', hv2, _⟩ := own_slice hown2
        subst hv2
        clear hown2 hk11
        have hl16 := opL_len 3 sa sb
        have HNIL : Hid ((opL 3 sa sb).2 ≠ 0 → (opL 3 sa sb).1 = []) := Lib.hid opL_nil
        generalize hro : opL 3 sa sb = ro at *
        obtain ⟨rs, rq⟩ := ro
        simp only [] at HRC HNIL hl16 HO2 ⊢
        clear hro HOP
        by_cases hq0 : rq = 0
        · subst hq0
          have hc := HRC.out
          rw [if_pos rfl] at hc
          simp only [Prod.mk.injEq] at hc
          obtain ⟨rfl, rfl, rfl⟩ := hc
          have HEQ := Lib.hid (equal_any (HDC.out.new HK11.out) (Reads.of_row HO2.out) (Nat.le_trans hl16 (by omega)) (Nat.le_trans hl16 (by omega)))
          rw [decide_eq_true rfl] at HEQ
          clear HNIL hl16
          go_wp2_with fail
          refine HEQ.out.mono ?_
          rintro e w12 ⟨rfl, m, rfl⟩
          have HK12 := Lib.hid (HK11.out.trans (Fr.of_drewN (fun _ => False) w11 m))
          go_wp2
          exact ⟨⟨2, rfl, by omega, Lib.hid ((hkr.out.trans H8.out.2).trans (HKR9.out.trans HK12.out))⟩, by simp [intOf]⟩
        · have hc := HRC.out
          rw [if_neg hq0, HLA.out, HLB.out] at hc
          simp only [Prod.mk.injEq] at hc
          obtain ⟨rfl, rfl, rfl⟩ := hc
          obtain rfl := HNIL.out hq0
          have gq1 : (qc != qc) = false := by simp
          have gq : (qc != 0) = true := by simp [hq0]
          have HEQ := Lib.hid (equal_any (HDC.out.new HK11.out) (Reads.of_row HO2.out) (Nat.zero_le _) (Nat.zero_le _))
          rw [decide_eq_true rfl] at HEQ
          have p8 : (n8 : Int) - 1 = ((la.length + lb.length : Nat) : Int) := by have := HN8.out; omega
          generalize la.length + lb.length = nz at *
          have gz : ((nz : Int) != (nz : Int)) = false := by simp
          clear HNIL hl16 hq0
          go_wp2_with fail
          refine HEQ.out.mono ?_
          rintro e w12 ⟨rfl, m, rfl⟩
          have HK12 := Lib.hid (HK11.out.trans (Fr.of_drewN (fun _ => False) w11 m))
          go_wp2
          exact ⟨⟨2, rfl, by omega, Lib.hid ((hkr.out.trans H8.out.2).trans (HKR9.out.trans HK12.out))⟩, by simp [intOf]⟩
      · have ck := HVC.out wr hkr.out 2 _ rfl
        clear hlt hk
        go_wp2_with (first
          | (at_builtin; refine list_app rfl (.tmp 76) (.tmp 77) 25 25 rfl Tryz.sliceX rfl (by exact H0.out.1) rfl (by exact HSRA.out) (by unfold maxLen; simp only [List.length_nil, List.length_append, List.length_map, List.length_cons, List.nil_append]; omega) (by simp only [List.length_nil, List.length_append, List.length_map, List.length_cons, List.nil_append]; omega) (by exact H0.out.2.size) ?_; intro v6 w6 hq; have H6 : Hid (XPart wr w6 ([] ++ la.map TrmB.tok) v6) := Lib.hid (H0.out.app (by rw [tox_map, List.length_map]; exact hq)); clear hq; have HSRB := Lib.hid (readsX_src (P := Tryz.prog) (HXB4.out _ (HK4R.out.trans H6.out.2)) Tryz.underlying25))
          | (at_builtin; refine list_app rfl (.tmp 78) (.tmp 79) 25 25 rfl Tryz.sliceX rfl (by exact H6.out.1) rfl (by exact HSRB.out) (by unfold maxLen; simp only [List.length_nil, List.length_append, List.length_map, List.length_cons, List.nil_append]; omega) (by simp only [List.length_nil, List.length_append, List.length_map, List.length_cons, List.nil_append]; omega) (by exact H6.out.2.size) ?_; intro v7 w7 hq; have H7 : Hid (XPart wr w7 (([] ++ la.map TrmB.tok) ++ lb.map TrmB.tok) v7) := Lib.hid (H6.out.app (by rw [tox_map, List.length_map]; exact hq)); clear hq; have H7a := Lib.hid (H7.out.kept (Fr.of_alloc _ w7 (Obj.cells #[.int .i64 4, .int .i64 0, .string ⟨#[]⟩] 52))))
          | (at_builtin; go_must (refine list_app rfl (.tmp 80) (.tmp 83) 25 25 rfl Tryz.sliceX rfl (by exact H7a.out.1) rfl (by exact src_three Tryz.underlying25 (heap_alloc_new _ _) rfl rfl rfl) (by unfold maxLen; simp only [List.length_nil, List.length_append, List.length_map, List.length_cons, List.nil_append]; omega) (by simp only [List.length_nil, List.length_append, List.length_map, List.length_cons, List.nil_append]; omega) (by exact H7a.out.2.size) ?_; intro v8 w8 hq; have H8 : Hid (XPart wr w8 ((([] ++ la.map TrmB.tok) ++ lb.map TrmB.tok) ++ [opT 4]) v8) := Lib.hid (H7a.out.app (y := [opT 4]) hq); clear hq)))
        clear ck HSRA H0
        have hzl := HZL.out 4
        have HKW8 := Lib.hid (HKR.out.trans H8.out.2)
        have HK48 := Lib.hid (HK4R.out.trans H8.out.2)
        have HZX := Lib.hid H8.out.reads
        have HZNA := Lib.hid (HZN.out 4)
        have HZI : Hid ((toX ((([] ++ la.map TrmB.tok) ++ lb.map TrmB.tok) ++ [opT 4])).map TrmB.tok = la.map TrmB.tok ++ lb.map TrmB.tok ++ [opT 4]) := Lib.hid (by rw [toX_tok, List.nil_append])
        have HZT : Hid ((toX ((([] ++ la.map TrmB.tok) ++ lb.map TrmB.tok) ++ [opT 4])).length = la.length + lb.length + 1) := Lib.hid (by rw [toX_len, hzl])
        obtain ⟨ao8, c8, hv8, _⟩ := HZX.out.form
        subst hv8
        generalize toX ((([] ++ la.map TrmB.tok) ++ lb.map TrmB.tok) ++ [opT 4]) = Z at *
        clear hzl
        generalize hn8 : Z.length = n8 at *
        have HN8 := HZT
        have HZL8 := Lib.hid hn8
        have hn200 : n8 ≤ 181 := by have := HN8.out; omega
        clear hn8
        have HRZ := Lib.hid (HN.out.run w8 HKW8.out F B L _ Z (HT4.out.later HK48.out) HZX.out (by rw [HZL8.out]; omega) HZNA.out)
        rw [HZI.out] at HRZ
        skip
        refine HRZ.out.mono ?_
        rintro e w9 ⟨vc, sc, nc, qc, rfl, hrc, hrdc, hk9⟩
        have HRC := Lib.hid (join_run HEA.out.1 HEB.out.1 (show bindS 4 ≠ 0 by decide) (fun h5 => absurd h5 (by decide)) (by rw [HLA.out, HLB.out]; have := HLM.out; omega) HEA.out.2 HEB.out.2 hrc)
        have HDC := Lib.hid hrdc
        have HK9 := Lib.hid (HK48.out.trans hk9)
        have HKW9 := Lib.hid (HKW8.out.trans hk9)
        have HKR9 := Lib.hid hk9
        have HKA : Hid (Kept w9 (w9.alloc (Obj.cells #[] 43))) := Lib.hid (Fr.of_alloc _ _ _)
        have HDAR := Lib.hid ((HDA4.out.new HK9.out).new HKA.out)
        have HDBR := Lib.hid ((HDB.out.new HK9.out).new HKA.out)
        obtain ⟨aoc, ccc, rfl, _⟩ := hrdc
        clear hrc hk9 HRZ
        have HOP : Hid (opL 4 sa sb = quoteL sa sb) := Lib.hid (by unfold opL; rw [if_neg (by decide), if_neg (by decide), if_pos rfl])
        go_wp2_with fail
        refine (rquote_any HDAR.out HDBR.out (may_bounds HMA.out).1 (may_bounds HMB.out).1 (may_bounds HMA.out).2 (may_bounds HMB.out).2).mono ?_
        rintro e w11 ⟨v2, rfl, hown2, hk11⟩
        have HK11 := Lib.hid (HKA.out.trans hk11)
        rw [← HOP.out] at *
        have HO2 := Lib.hid hown2
        obtain ⟨ao2, c2', hv2, _⟩ := own_slice hown2
        subst hv2
        clear hown2 hk11
        have hl16 := opL_len 4 sa sb
        have HNIL : Hid ((opL 4 sa sb).2 ≠ 0 → (opL 4 sa sb).1 = []) := Lib.hid opL_nil
        generalize hro : opL 4 sa sb = ro at *
        obtain ⟨rs, rq⟩ := ro
        simp only [] at HRC HNIL hl16 HO2 ⊢
        clear hro HOP
        by_cases hq0 : rq = 0
        · subst hq0
          have hc := HRC.out
          rw [if_pos rfl] at hc
          simp only [Prod.mk.injEq] at hc
          obtain ⟨rfl, rfl, rfl⟩ := hc
          have HEQ := Lib.hid (equal_any (HDC.out.new HK11.out) (Reads.of_row HO2.out) (Nat.le_trans hl16 (by omega)) (Nat.le_trans hl16 (by omega)))
          rw [decide_eq_true rfl] at HEQ
          clear HNIL hl16
          go_wp2_with fail
          refine HEQ.out.mono ?_
          rintro e w12 ⟨rfl, m, rfl⟩
          have HK12 := Lib.hid (HK11.out.trans (Fr.of_drewN (fun _ => False) w11 m))
          go_wp2
          exact ⟨⟨3, rfl, by omega, Lib.hid ((hkr.out.trans H8.out.2).trans (HKR9.out.trans HK12.out))⟩, by simp [intOf]⟩
        · have hc := HRC.out
          rw [if_neg hq0, HLA.out, HLB.out] at hc
          simp only [Prod.mk.injEq] at hc
          obtain ⟨rfl, rfl, rfl⟩ := hc
          obtain rfl := HNIL.out hq0
          have gq1 : (qc != qc) = false := by simp
          have gq : (qc != 0) = true := by simp [hq0]
          have HEQ := Lib.hid (equal_any (HDC.out.new HK11.out) (Reads.of_row HO2.out) (Nat.zero_le _) (Nat.zero_le _))
          rw [decide_eq_true rfl] at HEQ
          have p8 : (n8 : Int) - 1 = ((la.length + lb.length : Nat) : Int) := by have := HN8.out; omega
          generalize la.length + lb.length = nz at *
          have gz : ((nz : Int) != (nz : Int)) = false := by simp
          clear HNIL hl16 hq0
          go_wp2_with fail
          refine HEQ.out.mono ?_
          rintro e w12 ⟨rfl, m, rfl⟩
          have HK12 := Lib.hid (HK11.out.trans (Fr.of_drewN (fun _ => False) w11 m))
          go_wp2
          exact ⟨⟨3, rfl, by omega, Lib.hid ((hkr.out.trans H8.out.2).trans (HKR9.out.trans HK12.out))⟩, by simp [intOf]⟩
      · have ck := HVC.out wr hkr.out 3 _ rfl
        clear hlt hk
        go_wp2_with (first
          | (at_builtin; refine list_app rfl (.tmp 76) (.tmp 77) 25 25 rfl Tryz.sliceX rfl (by exact H0.out.1) rfl (by exact HSRA.out) (by unfold maxLen; simp only [List.length_nil, List.length_append, List.length_map, List.length_cons, List.nil_append]; omega) (by simp only [List.length_nil, List.length_append, List.length_map, List.length_cons, List.nil_append]; omega) (by exact H0.out.2.size) ?_; intro v6 w6 hq; have H6 : Hid (XPart wr w6 ([] ++ la.map TrmB.tok) v6) := Lib.hid (H0.out.app (by rw [tox_map, List.length_map]; exact hq)); clear hq; have HSRB := Lib.hid (readsX_src (P := Tryz.prog) (HXB4.out _ (HK4R.out.trans H6.out.2)) Tryz.underlying25))
          | (at_builtin; refine list_app rfl (.tmp 78) (.tmp 79) 25 25 rfl Tryz.sliceX rfl (by exact H6.out.1) rfl (by exact HSRB.out) (by unfold maxLen; simp only [List.length_nil, List.length_append, List.length_map, List.length_cons, List.nil_append]; omega) (by simp only [List.length_nil, List.length_append, List.length_map, List.length_cons, List.nil_append]; omega) (by exact H6.out.2.size) ?_; intro v7 w7 hq; have H7 : Hid (XPart wr w7 (([] ++ la.map TrmB.tok) ++ lb.map TrmB.tok) v7) := Lib.hid (H6.out.app (by rw [tox_map, List.length_map]; exact hq)); clear hq; have H7a := Lib.hid (H7.out.kept (Fr.of_alloc _ w7 (Obj.cells #[.int .i64 5, .int .i64 0, .string ⟨#[]⟩] 52))))
          | (at_builtin; go_must (refine list_app rfl (.tmp 80) (.tmp 83) 25 25 rfl Tryz.sliceX rfl (by exact H7a.out.1) rfl (by exact src_three Tryz.underlying25 (heap_alloc_new _ _) rfl rfl rfl) (by unfold maxLen; simp only [List.length_nil, List.length_append, List.length_map, List.length_cons, List.nil_append]; omega) (by simp only [List.length_nil, List.length_append, List.length_map, List.length_cons, List.nil_append]; omega) (by exact H7a.out.2.size) ?_; intro v8 w8 hq; have H8 : Hid (XPart wr w8 ((([] ++ la.map TrmB.tok) ++ lb.map TrmB.tok) ++ [opT 5]) v8) := Lib.hid (H7a.out.app (y := [opT 5]) hq); clear hq)))
        clear ck HSRA H0
        skip
        have hzl := HZL.out 5
        have HKW8 := Lib.hid (HKR.out.trans H8.out.2)
        have HK48 := Lib.hid (HK4R.out.trans H8.out.2)
        have HZX := Lib.hid H8.out.reads
        have HZNA := Lib.hid (HZN.out 5)
        have HZI : Hid ((toX ((([] ++ la.map TrmB.tok) ++ lb.map TrmB.tok) ++ [opT 5])).map TrmB.tok = la.map TrmB.tok ++ lb.map TrmB.tok ++ [opT 5]) := Lib.hid (by rw [toX_tok, List.nil_append])
        have HZT : Hid ((toX ((([] ++ la.map TrmB.tok) ++ lb.map TrmB.tok) ++ [opT 5])).length = la.length + lb.length + 1) := Lib.hid (by rw [toX_len, hzl])
        obtain ⟨ao8, c8, hv8, _⟩ := HZX.out.form
        subst hv8
        generalize toX ((([] ++ la.map TrmB.tok) ++ lb.map TrmB.tok) ++ [opT 5]) = Z at *
        clear hzl
        generalize hn8 : Z.length = n8 at *
        have HN8 := HZT
        have HZL8 := Lib.hid hn8
        have hn200 : n8 ≤ 181 := by have := HN8.out; omega
        clear hn8
        have HRZ := Lib.hid (HN.out.run w8 HKW8.out F B L _ Z (HT4.out.later HK48.out) HZX.out (by rw [HZL8.out]; omega) HZNA.out)
        rw [HZI.out] at HRZ
        by_cases hro0 : ∃ t, eb = .atom t ∧ t.of = 5
        · have HRO := Lib.hid hro0
          clear hro0
          skip
          refine HRZ.out.mono ?_
          rintro e w9 ⟨vc, sc, nc, qc, rfl, hrc, hrdc, hk9⟩
          have HRC := Lib.hid (join_run HEA.out.1 HEB.out.1 (show bindS 5 ≠ 0 by decide) (fun h5 => HRO.out) (by rw [HLA.out, HLB.out]; have := HLM.out; omega) HEA.out.2 HEB.out.2 hrc)
          have HDC := Lib.hid hrdc
          have HK9 := Lib.hid (HK48.out.trans hk9)
          have HKW9 := Lib.hid (HKW8.out.trans hk9)
          have HKR9 := Lib.hid hk9
          have HKA : Hid (Kept w9 (w9.alloc (Obj.cells #[] 43))) := Lib.hid (Fr.of_alloc _ _ _)
          have HDAR := Lib.hid ((HDA4.out.new HK9.out).new HKA.out)
          have HDBR := Lib.hid ((HDB.out.new HK9.out).new HKA.out)
          obtain ⟨aoc, ccc, rfl, _⟩ := hrdc
          clear hrc hk9 HRZ
          have HOP : Hid (opL 5 sa sb = asL sa (atS b0 0)) := Lib.hid (by unfold opL; rw [if_neg (by decide), if_neg (by decide), if_neg (by decide)]; rw [HHD.out])
          have HMY := Lib.hid (rmayx_any (w := w9.alloc (Obj.cells #[] 43)) (HZX.out.kept (HKR9.out.trans HKA.out)) (by rw [HZL8.out]; omega) HZNA.out)
          rw [HZI.out] at HMY
          have HMJ := Lib.hid (join_may HEA.out.1 HEB.out.1 (show bindS 5 ≠ 0 by decide) (fun _ => HRO.out) (by rw [HLA.out, HLB.out]; have := HLM.out; omega))
          go_wp2_with fail
          refine HMY.out.mono ?_
          rintro e w10 ⟨hk10, hp10⟩
          obtain rfl : e = .returned (.bool true) := by
            rcases hp10 with ⟨_, _, h⟩ | ⟨h, _⟩
            · exact h
            · exact absurd HMJ.out (h _)
          have HKB := Lib.hid (HKA.out.trans hk10)
          have cb := (HK9.out.trans HKB.out).cell HCB.out (fun x => x)
          have hpb : (0 : Int) < ((wcells sb).length : Int) := by have := HPB.out; omega
          clear hk10 hp10 HMY
          go_wp2_with fail
          refine (rat_any b0 0 _ HB0S.out).mono ?_
          rintro e w10b ⟨rfl, hk10⟩
          have HKC := Lib.hid (HKB.out.trans hk10)
          clear hk10 cb hpb
          go_wp2_with fail
          refine (ras_any ((HDA4.out.new HK9.out).new HKC.out) (may_bounds HMA.out).1 (may_bounds HMA.out).2 (atS_good b0 0).1 (atS_good b0 0).2).mono ?_
          rintro e w11 ⟨v2, rfl, hown2, hk11⟩
          have HK11 := Lib.hid (HKC.out.trans hk11)
          rw [← HOP.out] at *
          have HO2 := Lib.hid hown2
          obtain ⟨ao2, c2', hv2, _⟩ := own_slice hown2
          subst hv2
          clear hown2 hk11
          have hl16 := opL_len 5 sa sb
          have HNIL : Hid ((opL 5 sa sb).2 ≠ 0 → (opL 5 sa sb).1 = []) := Lib.hid opL_nil
          generalize hro : opL 5 sa sb = ro at *
          obtain ⟨rs, rq⟩ := ro
          simp only [] at HRC HNIL hl16 HO2 ⊢
          clear hro HOP
          by_cases hq0 : rq = 0
          · subst hq0
            have hc := HRC.out
            rw [if_pos rfl] at hc
            simp only [Prod.mk.injEq] at hc
            obtain ⟨rfl, rfl, rfl⟩ := hc
            have HEQ := Lib.hid (equal_any (HDC.out.new HK11.out) (Reads.of_row HO2.out) (Nat.le_trans hl16 (by omega)) (Nat.le_trans hl16 (by omega)))
            rw [decide_eq_true rfl] at HEQ
            clear HNIL hl16
            go_wp2_with fail
            refine HEQ.out.mono ?_
            rintro e w12 ⟨rfl, m, rfl⟩
            have HK12 := Lib.hid (HK11.out.trans (Fr.of_drewN (fun _ => False) w11 m))
            go_wp2
            exact ⟨⟨4, rfl, by omega, Lib.hid ((hkr.out.trans H8.out.2).trans (HKR9.out.trans HK12.out))⟩, by simp [intOf]⟩
          · have hc := HRC.out
            rw [if_neg hq0, HLA.out, HLB.out] at hc
            simp only [Prod.mk.injEq] at hc
            obtain ⟨rfl, rfl, rfl⟩ := hc
            obtain rfl := HNIL.out hq0
            have gq1 : (qc != qc) = false := by simp
            have gq : (qc != 0) = true := by simp [hq0]
            have HEQ := Lib.hid (equal_any (HDC.out.new HK11.out) (Reads.of_row HO2.out) (Nat.zero_le _) (Nat.zero_le _))
            rw [decide_eq_true rfl] at HEQ
            have p8 : (n8 : Int) - 1 = ((la.length + lb.length : Nat) : Int) := by have := HN8.out; omega
            generalize la.length + lb.length = nz at *
            have gz : ((nz : Int) != (nz : Int)) = false := by simp
            clear HNIL hl16 hq0
            go_wp2_with fail
            refine HEQ.out.mono ?_
            rintro e w12 ⟨rfl, m, rfl⟩
            have HK12 := Lib.hid (HK11.out.trans (Fr.of_drewN (fun _ => False) w11 m))
            go_wp2
            exact ⟨⟨4, rfl, by omega, Lib.hid ((hkr.out.trans H8.out.2).trans (HKR9.out.trans HK12.out))⟩, by simp [intOf]⟩
        · have HRO := Lib.hid hro0
          clear hro0
          skip
          refine HRZ.out.mono ?_
          rintro e w9 ⟨vc, sc, nc, qc, rfl, hrc, hrdc, hk9⟩
          have HNM := Lib.hid (join_not HEA.out.1 HEB.out.1 HRO.out)
          obtain ⟨rfl, rfl, rfl⟩ : sc = [] ∧ nc = 0 ∧ qc = 2 := by
            rcases hrc with ⟨t, ht, _⟩ | ⟨_, h⟩
            · exact absurd ht (HNM.out t)
            · simp only [Prod.mk.injEq] at h; exact h
          have HKR9 := Lib.hid hk9
          have HKA : Hid (Kept w9 (w9.alloc (Obj.cells #[] 43))) := Lib.hid (Fr.of_alloc _ _ _)
          have HMY := Lib.hid (rmayx_any (w := w9.alloc (Obj.cells #[] 43)) (HZX.out.kept (HKR9.out.trans HKA.out)) (by rw [HZL8.out]; omega) HZNA.out)
          rw [HZI.out] at HMY
          obtain ⟨aoc, ccc, rfl, _⟩ := hrdc
          clear hrc hk9 HRZ
          go_wp2_with fail
          refine HMY.out.mono ?_
          rintro e w10 ⟨hk10, hp10⟩
          obtain rfl : e = .returned (.bool false) := by
            rcases hp10 with ⟨t, ht, _⟩ | ⟨_, h⟩
            · exact absurd ht (HNM.out t)
            · exact h
          have HK12 := Lib.hid (HKA.out.trans hk10)
          clear hk10 hp10 HMY
          go_wp2
          exact ⟨⟨4, rfl, by omega, Lib.hid ((hkr.out.trans H8.out.2).trans (HKR9.out.trans HK12.out))⟩, by simp [intOf]⟩
    · have hke : k = 4 := by omega
      subst hke
      clear hlt hk
      go_wp2
      go_ret
      exact ⟨rfl, HKR.out⟩

end Go.Proofs.YtbfealhbdemhmaaGreatDoor
