/- Contracts and lemmas: K2 -/
import Derived.Test.YtdapdpmplbifdaaDoorK1
namespace Go.Proofs.YtdapdpmplbifdaaDoor
set_option linter.unusedVariables false
set_option linter.unusedSimpArgs false
open Go.RowKit Go.ChangeShapes Go.WideShapes
set_option maxRecDepth 20000
theorem chk_step {t : Tok} {r : List Tok} {b : Int} {op k : Nat} (hw : wordS t ≠ []) :
    chkS (decide (b = 1 ∨ b = 7)) (decide (b = 5)) op k (t :: r) =
      if mayB b op t.kind t.of = false then some (k, 2)
      else if t.kind = 6 then (if op = 100 then some (k, 3) else chkS false false (op + 1) (k + 1) r)
      else chkS (decide (t.kind = 1 ∨ t.kind = 7)) (decide (t.kind = 5)) (if t.kind = 7 then op - 1 else op) (k + 1) r := by
  by_cases k1 : t.kind = 1
  · have e : mayB b op t.kind t.of = decide (¬ (b = 1 ∨ b = 7) ∧ (b ≠ 5 ∨ t.of = 5)) := by unfold mayB; rw [if_pos (.inl k1)]
    rw [e]
    by_cases hb : b = 1 ∨ b = 7
    · rw [if_pos (by simp [hb]), decide_eq_true hb, chk_not (by rw [k1]; simp) (by rw [k1]; rfl)]
    · rw [decide_eq_false hb]
      by_cases h5 : b = 5
      · by_cases ho : t.of = 5
        · rw [if_neg (by simp [hb, ho]), chk_atom k1 (.inr ho), k1]
          rfl
        · rw [if_pos (by simp [hb, ho, h5]), chk_no (by simp [ho, h5]) (by rw [k1]; simp)]
      · rw [if_neg (by simp [hb, h5]), chk_atom k1 (.inl (by simp [h5])), k1]
        rfl
  by_cases k6 : t.kind = 6
  · have e : mayB b op t.kind t.of = decide (¬ (b = 1 ∨ b = 7) ∧ (b ≠ 5 ∨ t.of = 5)) := by unfold mayB; rw [if_pos (.inr k6)]
    have ho : t.of = 0 := by rw [tok_open hw k6]; rfl
    rw [e]
    by_cases hb : b = 1 ∨ b = 7
    · rw [if_pos (by simp [hb]), decide_eq_true hb, chk_not (by rw [k6]; simp) (by rw [k6]; rfl)]
    · rw [decide_eq_false hb]
      by_cases h5 : b = 5
      · rw [if_pos (by simp [hb, ho, h5]), chk_no (by rw [k6]; simp) (by simp [h5])]
      · rw [if_neg (by simp [hb, h5]), if_pos k6, decide_eq_false h5]
        by_cases h100 : op = 100
        · subst h100
          rw [chk_many k6, if_pos rfl]
        · rw [chk_open1 k6 h100, if_neg h100]
  by_cases k7 : t.kind = 7
  · have e : mayB b op t.kind t.of = decide ((b = 1 ∨ b = 7) ∧ (0 : Int) < (op : Int)) := by
      unfold mayB
      rw [if_neg (by simp [k7]), if_neg (by rw [k7]; decide)]
      simp [k7]
    rw [e]
    by_cases hb : b = 1 ∨ b = 7
    · rw [decide_eq_true hb]
      by_cases h0 : 0 < op
      · rw [if_neg (by simp [hb, h0]), if_neg k6, chk_close1 k7 h0, k7]
        rfl
      · rw [if_pos (by simp [h0]), chk_not (fun x => h0 x.2) (by rw [k7]; rfl)]
    · rw [if_pos (by simp [hb]), decide_eq_false hb, chk_no (by simp [k1]) (by simp [k6])]
  by_cases hk : bindS t.kind = 0
  · have e : mayB b op t.kind t.of = false := by unfold mayB; rw [if_neg (by simp [k1, k6]), if_neg (by simp [hk])]; simp [k7]
    rw [if_pos e]
    by_cases hb : b = 1 ∨ b = 7
    · rw [decide_eq_true hb, chk_not (by simp [k7]) hk]
    · rw [decide_eq_false hb, chk_no (by simp [k1]) (by simp [k6])]
  · have e : mayB b op t.kind t.of = decide (b = 1 ∨ b = 7) := by unfold mayB; rw [if_neg (by simp [k1, k6]), if_pos hk]
    rw [e]
    by_cases hb : b = 1 ∨ b = 7
    · rw [if_neg (by simp [hb]), if_neg k6, decide_eq_true hb, chk_sign hk, if_neg k7]
      rw [decide_eq_false (by simp [k1, k7] : ¬ (t.kind = 1 ∨ t.kind = 7))]
    · rw [if_pos (by simp [hb]), decide_eq_false hb, chk_no (by simp [k1]) (by simp [k6])]
theorem may_seven {b o : Int} {op : Nat} (h : mayB b op 7 o = true) : 0 < op := by
  unfold mayB at h
  rw [if_neg (by simp), if_neg (by decide)] at h
  have := of_decide_eq_true h
  omega
/-- what the tokens' fault is -/
def faultR (l : List Tok) : Nat × Int := match badS 0 l with
  | some i => (i, 2)
  | none => match chkS false false 0 0 l with
    | some x => x
    | none => if 200 < (l.filter notPar).length then (l.length, 3) else (0, 0)
theorem take_get {α : Type} {l : List α} {k : Nat} {t : α} (h : l[k]? = some t) : l.take (k + 1) = l.take k ++ [t] := by
  rw [List.take_add_one, h]; rfl
set_option maxHeartbeats 8000000 in
theorem kfault_any {w : World} {v : Value} {l : List TokB} (h : ReadsT w v l) (hl : l.length ≤ 1000000) (hs : ∀ t ∈ l, t.name.size ≤ 1000000) (hL : LaidT w) :
    Calls Tryd.prog 27 #[v] w (KeptPost (checkV (faultR (l.map TokB.tok))) w) := by
  obtain ⟨ao, c, rfl, _, hc⟩ := h
  have HC := Lib.hid hc
  have HS := Lib.hid hs
  have HL := Lib.hid hL
  have HM : Hid ((l.map TokB.tok).length = l.length) := Lib.hid (by simp)
  have HG : Hid (∀ (k : Nat) (t : TokB), l[k]? = some t → (l.map TokB.tok)[k]? = some t.tok) := Lib.hid (fun k t ht => by rw [List.getElem?_map, ht]; rfl)
  clear hc hs hL
  generalize l.map TokB.tok = L at *
  generalize hn : l.length = n at *
  have HN := Lib.hid hn
  clear hn
  have H0 : Hid (Kept w w) := Lib.hid (Fr.refl _ _)
  have H1 : Hid (badS 0 L = badS 0 (L.drop 0)) := Lib.hid rfl
  go_enter Tryd.func27, Tryd.ntmps27
  go_wp2
  go_loopw [13] (fun iv wr => ∃ k : Nat, iv = .int .i64 k ∧ k ≤ n ∧ Hid (Kept w wr) ∧ Hid (badS 0 L = badS k (L.drop k))) (fun iv _ => n - (intOf iv).toNat)
  case atStart => exact ⟨0, rfl, by omega, H0, H1⟩
  case round =>
    obtain ⟨k, rfl, hk, hkr, hto⟩ := hrel
    clear H0 H1
    by_cases hlt : k < n
    · have hlti : (k : Int) < n := by omega
      obtain ⟨t, ht⟩ : ∃ t, l[k]? = some t := ⟨_, List.getElem?_eq_getElem (by have := HN.out; omega)⟩
      obtain ⟨g, off, rfl, d0, d1, d2, d3⟩ := HC.out k t ht
      have hsz := HS.out t (List.mem_of_getElem? ht)
      have c0 := hkr.out.cell d0 (fun x => x)
      have c1 := hkr.out.cell d1 (fun x => x)
      have c2 := hkr.out.cell d2 (fun x => x)
      have c3 := hkr.out.cell d3 (fun x => x)
      have HKA : Hid (Kept w (wr.alloc (.cells #[.int .i64 t.kind, .string t.name, .int .i64 t.of, .int .i64 t.pos] 31))) := Lib.hid (hkr.out.trans (Fr.of_alloc _ _ _))
      have HW : Hid (∀ W, LaidT W → Calls Tryd.prog 37 #[.agg #[.int .i64 t.kind, .string t.name, .int .i64 t.of, .int .i64 t.pos]] W (KeptPost (.string (strOf (wordS t.tok))) W)) := Lib.hid (fun W hW => kword_any t.kind t.name t.of t.pos W hsz hW)
      have HST : Hid (badS 0 L = if wordS t.tok = [] then some k else badS (k + 1) (L.drop (k + 1))) := Lib.hid (by rw [hto.out, drop_get (HG.out k t ht), badS])
      clear ht d0 d1 d2 d3 hto
      by_cases hw : wordS t.tok = []
      · have q1 : (strOf (wordS t.tok)).toList = [] := by rw [bs_toList, bs_strOf]; exact hw
        have q2 : (strOf (wordS t.tok)).toList.isEmpty = true := by rw [q1]; rfl
        have q3 : ((strOf (wordS t.tok)).toList == []) = true := by rw [q1]; rfl
        have HA : Hid (faultR L = (k, 2)) := Lib.hid (by unfold faultR; rw [HST.out, if_pos hw])
        clear hw HST
        go_wp2_with fail
        refine (HW.out _ (HL.out.kept HKA.out)).mono ?_
        rintro e w2 ⟨rfl, hk2⟩
        have HK2 := Lib.hid (HKA.out.trans hk2)
        clear hk2
        go_wp2
        go_ret2
        exact ⟨by rw [HA.out]; rfl, HK2.out⟩
      · have q1 : ¬ (strOf (wordS t.tok)).toList = [] := by rw [bs_toList, bs_strOf]; exact hw
        have q2 : (strOf (wordS t.tok)).toList.isEmpty = false := by simpa using q1
        have q3 : ((strOf (wordS t.tok)).toList == []) = false := by simpa using q1
        have HB := Lib.hid (HST.out.trans (if_neg hw))
        clear hw HST
        go_wp2_with fail
        refine (HW.out _ (HL.out.kept HKA.out)).mono ?_
        rintro e w2 ⟨rfl, hk2⟩
        have HK2 := Lib.hid (HKA.out.trans hk2)
        clear hk2
        go_wp2
        first
          | (go_roundw
             case rel => exact ⟨k + 1, by go_num, by omega, HK2, HB⟩
             case measure => simp [intOf]; omega)
          | exact ⟨⟨k + 1, by go_num, by omega, HK2, HB⟩, by simp [intOf]; omega⟩
    · have hlti : ¬ (k : Int) < n := by omega
      have HB0 : Hid (badS 0 L = none) := Lib.hid (by rw [hto.out, List.drop_eq_nil_of_le (by rw [HM.out]; omega)]; rfl)
      have HCR : Hid (faultR L = match chkS false false 0 0 L with | some x => x | none => if 200 < (L.filter notPar).length then (L.length, 3) else (0, 0)) := Lib.hid (by unfold faultR; rw [HB0.out])
      have HWO := Lib.hid (bad_none.1 HB0.out)
      have H2 : Hid (chkS false false 0 0 L = chkS (decide ((0 : Int) = 1 ∨ (0 : Int) = 7)) (decide ((0 : Int) = 5)) 0 0 (L.drop 0)) := Lib.hid rfl
      have H3 : Hid (0 = ((L.take 0).filter notPar).length) := Lib.hid rfl
      clear hto hlt
      go_wp2
      have hkr0 := hkr
      go_loopw [6, 7, 8, 25] (fun bv ov tv iv wr => ∃ (k tm : Nat) (b : Int) (op : Nat), bv = .int .i64 b ∧ ov = .int .i64 op ∧ tv = .int .i64 tm ∧ iv = .int .i64 k ∧ k ≤ n ∧ op ≤ 100 ∧ tm ≤ k ∧ Hid (Kept w wr) ∧ Hid (chkS false false 0 0 L = chkS (decide (b = 1 ∨ b = 7)) (decide (b = 5)) op k (L.drop k)) ∧ Hid (tm = ((L.take k).filter notPar).length)) (fun _ _ _ iv _ => n - (intOf iv).toNat)
      case atStart => exact ⟨0, 0, 0, 0, rfl, rfl, rfl, rfl, by omega, by omega, by omega, hkr0, H2, H3⟩
      case round =>
        obtain ⟨k, tm, b, op, rfl, rfl, rfl, rfl, hk, hop, htm, hkr, hto, hft⟩ := hrel
        clear H2 H3 hkr0
        by_cases hlt : k < n
        · have hlti : (k : Int) < n := by omega
          obtain ⟨t, ht⟩ : ∃ t, l[k]? = some t := ⟨_, List.getElem?_eq_getElem (by have := HN.out; omega)⟩
          obtain ⟨g, off, rfl, d0, d1, d2, d3⟩ := HC.out k t ht
          have c0 := hkr.out.cell d0 (fun x => x)
          have c1 := hkr.out.cell d1 (fun x => x)
          have c2 := hkr.out.cell d2 (fun x => x)
          have c3 := hkr.out.cell d3 (fun x => x)
          have HKA : Hid (Kept w (wr.alloc (.cells #[.int .i64 t.kind, .string t.name, .int .i64 t.of, .int .i64 t.pos] 31))) := Lib.hid (hkr.out.trans (Fr.of_alloc _ _ _))
          have H4A := Lib.hid (four_new wr (.int .i64 t.kind) (.string t.name) (.int .i64 t.of) (.int .i64 t.pos) 31)
          have HST := Lib.hid (chk_step (b := b) (op := op) (k := k) (r := L.drop (k + 1)) (HWO.out _ (List.mem_of_getElem? (HG.out k t ht))))
          have HTO : Hid (chkS false false 0 0 L = chkS (decide (b = 1 ∨ b = 7)) (decide (b = 5)) op k (t.tok :: L.drop (k + 1))) := Lib.hid (by rw [hto.out, drop_get (HG.out k t ht)])
          have HTK : Hid (((L.take (k + 1)).filter notPar).length = tm + (if notPar t.tok = true then 1 else 0)) := Lib.hid (by rw [take_get (HG.out k t ht), List.filter_append, List.length_append, ← hft.out, List.filter_cons]; split <;> rfl)
          have htk : t.tok.kind = t.kind := rfl
          have hto2 : t.tok.of = t.of := rfl
          rw [htk, hto2] at HST
          have HMY : Hid (∀ W, Calls Tryd.prog 48 #[.int .i64 b, .int .i64 op, .agg #[.int .i64 t.kind, .string t.name, .int .i64 t.of, .int .i64 t.pos]] W (KeptPost (.bool (mayB b op t.kind t.of)) W)) := Lib.hid (fun W => kmayf_any b op t.kind t.of t.pos t.name W)
          clear hto hft ht d0 d1 d2 d3 htk hto2
          go_wp2_with fail
          refine (HMY.out _).mono ?_
          rintro e w2 ⟨rfl, hk2⟩
          have H42 := Lib.hid (H4A.out.kept hk2)
          have HK2 := Lib.hid (HKA.out.trans hk2)
          clear hk2 H4A HKA
          generalize wr.heap.size = ga at *
          have e0 := H42.out.c0
          cases hm : mayB b op t.kind t.of
          · have HA : Hid (faultR L = (k, 2)) := Lib.hid (by rw [HCR.out, HTO.out, HST.out, if_pos hm])
            clear HST HTO HMY
            go_wp2
            go_ret2
            exact ⟨by rw [HA.out]; rfl, HK2.out⟩
          · have hmf : ¬ mayB b op t.kind t.of = false := by rw [hm]; decide
            by_cases k6 : t.kind = 6
            · have g6 : (t.kind == 6) = true := by simp [k6]
              by_cases h100 : op = 100
              · have HA : Hid (faultR L = (k, 3)) := Lib.hid (by rw [HCR.out, HTO.out, HST.out, if_neg hmf, if_pos k6, if_pos h100])
                have g100 : ((op : Int) == 100) = true := by rw [beq_iff_eq]; omega
                clear HST HTO HMY hmf k6
                go_wp2
                go_ret2
                exact ⟨by rw [HA.out]; rfl, HK2.out⟩
              · have g100 : ((op : Int) == 100) = false := by rw [beq_eq_false_iff_ne]; omega
                have HN2 : Hid (chkS false false 0 0 L = chkS (decide (t.kind = 1 ∨ t.kind = 7)) (decide (t.kind = 5)) (op + 1) (k + 1) (L.drop (k + 1))) := Lib.hid (by rw [HTO.out, HST.out, if_neg hmf, if_pos k6, if_neg h100, k6]; rfl)
                have HF2 : Hid (tm = ((L.take (k + 1)).filter notPar).length) := Lib.hid (by rw [HTK.out, if_neg (by show ¬ notPar t.tok = true; unfold notPar; rw [show t.tok.kind = 6 from k6]; decide)]; rfl)
                clear HST HTO HMY HTK hmf k6
                go_wp2
                go_roundw
                case rel => exact ⟨k + 1, tm, t.kind, op + 1, rfl, by go_num, rfl, by go_num, by omega, by omega, by omega, HK2, HN2, HF2⟩
                case measure => simp [intOf]; omega
            · have g6 : (t.kind == 6) = false := by simp [k6]
              by_cases k7 : t.kind = 7
              · have g7 : (t.kind == 7) = true := by simp [k7]
                have h0 : 0 < op := by rw [k7] at hm; exact may_seven hm
                have HN2 : Hid (chkS false false 0 0 L = chkS (decide (t.kind = 1 ∨ t.kind = 7)) (decide (t.kind = 5)) (op - 1) (k + 1) (L.drop (k + 1))) := Lib.hid (by rw [HTO.out, HST.out, if_neg hmf, if_neg k6, if_pos k7])
                have HF2 : Hid (tm = ((L.take (k + 1)).filter notPar).length) := Lib.hid (by rw [HTK.out, if_neg (by show ¬ notPar t.tok = true; unfold notPar; rw [show t.tok.kind = 7 from k7]; decide)]; rfl)
                clear HST HTO HMY HTK hmf k7 k6
                go_wp2
                go_roundw
                case rel => exact ⟨k + 1, tm, t.kind, op - 1, rfl, by go_num, rfl, by go_num, by omega, by omega, by omega, HK2, HN2, HF2⟩
                case measure => simp [intOf]; omega
              · have g7 : (t.kind == 7) = false := by simp [k7]
                have HN2 : Hid (chkS false false 0 0 L = chkS (decide (t.kind = 1 ∨ t.kind = 7)) (decide (t.kind = 5)) op (k + 1) (L.drop (k + 1))) := Lib.hid (by rw [HTO.out, HST.out, if_neg hmf, if_neg k6, if_neg k7])
                have HF2 : Hid (tm + 1 = ((L.take (k + 1)).filter notPar).length) := Lib.hid (by rw [HTK.out, if_pos (by show notPar t.tok = true; unfold notPar; exact decide_eq_true ⟨k6, k7⟩)])
                clear HST HTO HMY HTK hmf k7 k6
                go_wp2
                go_roundw
                case rel => exact ⟨k + 1, tm + 1, t.kind, op, rfl, rfl, by go_num, by go_num, by omega, by omega, by omega, HK2, HN2, HF2⟩
                case measure => simp [intOf]; omega
        · have hlti : ¬ (k : Int) < n := by omega
          have HE : Hid (chkS false false 0 0 L = if decide (b = 1 ∨ b = 7) = true ∧ op = 0 then none else some (k, 2)) := Lib.hid (by rw [hto.out, List.drop_eq_nil_of_le (by rw [HM.out]; omega), chkS])
          have HFT : Hid (tm = (L.filter notPar).length) := Lib.hid (by rw [hft.out, List.take_of_length_le (by rw [HM.out]; omega)])
          have hkn : Hid (k = n) := Lib.hid (by omega)
          have HEN : Hid (∀ W, Calls Tryd.prog 49 #[.int .i64 b] W fun e w' => e = .returned (.bool (decide (b = 1 ∨ b = 7))) ∧ W = w') := Lib.hid (fun W => kends_any b W)
          clear hto hft
          generalize decide (b = 1 ∨ b = 7) = hv at *
          cases hv
          · have HA : Hid (faultR L = (n, 2)) := Lib.hid (by rw [HCR.out, HE.out, if_neg (by simp), hkn.out])
            clear HE hkn
            go_wp2_with (go_at_call 49; refine (HEN.out _).mono ?_; rintro e w' ⟨rfl, rfl⟩)
            go_ret2
            exact ⟨by rw [HA.out]; rfl, hkr.out⟩
          · by_cases h0 : op = 0
            · have h0i : ¬ (0 : Int) < (op : Int) := by omega
              by_cases h200 : 200 < tm
              · have h2i : (200 : Int) < (tm : Int) := by omega
                have HA : Hid (faultR L = (n, 3)) := Lib.hid (by rw [HCR.out, HE.out, if_pos ⟨rfl, h0⟩]; simp only []; rw [if_pos (by rw [← HFT.out]; exact h200), HM.out])
                clear HE hkn h200
                go_wp2_with (go_at_call 49; refine (HEN.out _).mono ?_; rintro e w' ⟨rfl, rfl⟩)
                go_ret2
                exact ⟨by rw [HA.out]; rfl, hkr.out⟩
              · have h2i : ¬ (200 : Int) < (tm : Int) := by omega
                have HA : Hid (faultR L = (0, 0)) := Lib.hid (by rw [HCR.out, HE.out, if_pos ⟨rfl, h0⟩]; simp only []; rw [if_neg (by rw [← HFT.out]; exact h200)])
                clear HE hkn h200
                go_wp2_with (go_at_call 49; refine (HEN.out _).mono ?_; rintro e w' ⟨rfl, rfl⟩)
                go_ret2
                exact ⟨by rw [HA.out]; rfl, hkr.out⟩
            · have HA : Hid (faultR L = (n, 2)) := Lib.hid (by rw [HCR.out, HE.out, if_neg (by simp [h0]), hkn.out])
              have h0i : (0 : Int) < (op : Int) := by omega
              clear HE hkn
              go_wp2_with (go_at_call 49; refine (HEN.out _).mono ?_; rintro e w' ⟨rfl, rfl⟩)
              go_ret2
              exact ⟨by rw [HA.out]; rfl, hkr.out⟩

end Go.Proofs.YtdapdpmplbifdaaDoor
