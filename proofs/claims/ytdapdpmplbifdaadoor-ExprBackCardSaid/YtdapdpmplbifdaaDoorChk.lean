/- Contracts and lemmas: Chk -/
import Derived.Test.YtdapdpmplbifdaaDoorMem
namespace Go.Proofs.YtdapdpmplbifdaaDoor
set_option linter.unusedVariables false
set_option linter.unusedSimpArgs false
open Go.RowKit Go.ChangeShapes Go.WideShapes
theorem chk_atom {t : Tok} {r : List Tok} {ga : Bool} {op k : Nat} (h : t.kind = 1) (ha : ga = false ∨ t.of = 5) : chkS false ga op k (t :: r) = chkS true false op (k + 1) r := by rw [chkS, if_pos ⟨rfl, h, ha⟩]
theorem chk_open1 {t : Tok} {r : List Tok} {op k : Nat} (h : t.kind = 6) (ho : op ≠ 100) : chkS false false op k (t :: r) = chkS false false (op + 1) (k + 1) r := by
  rw [chkS, if_neg (by rw [h]; simp), if_pos ⟨rfl, h, rfl⟩, if_neg ho]
theorem chk_many {t : Tok} {r : List Tok} {k : Nat} (h : t.kind = 6) : chkS false false 100 k (t :: r) = some (k, 3) := by
  rw [chkS, if_neg (by rw [h]; simp), if_pos ⟨rfl, h, rfl⟩, if_pos rfl]
theorem chk_no {t : Tok} {r : List Tok} {ga : Bool} {op k : Nat} (h1 : ¬ (t.kind = 1 ∧ (ga = false ∨ t.of = 5))) (h6 : ¬ (t.kind = 6 ∧ ga = false)) : chkS false ga op k (t :: r) = some (k, 2) := by
  rw [chkS, if_neg (fun e => h1 e.2), if_neg (fun e => h6 e.2), if_neg (by simp), if_neg (by simp)]
theorem chk_close1 {t : Tok} {r : List Tok} {ga : Bool} {op k : Nat} (h : t.kind = 7) (ho : 0 < op) : chkS true ga op k (t :: r) = chkS true false (op - 1) (k + 1) r := by
  rw [chkS, if_neg (by simp), if_neg (by simp), if_pos ⟨rfl, h, ho⟩]
theorem chk_sign {t : Tok} {r : List Tok} {ga : Bool} {op k : Nat} (h : bindS t.kind ≠ 0) : chkS true ga op k (t :: r) = chkS false (decide (t.kind = 5)) op (k + 1) r := by
  rw [chkS, if_neg (by simp), if_neg (by simp), if_neg (by rintro ⟨_, h7, _⟩; rw [h7] at h; exact h rfl), if_pos ⟨rfl, h⟩]
theorem chk_not {t : Tok} {r : List Tok} {ga : Bool} {op k : Nat} (h7 : ¬ (t.kind = 7 ∧ 0 < op)) (h : bindS t.kind = 0) : chkS true ga op k (t :: r) = some (k, 2) := by
  rw [chkS, if_neg (by simp), if_neg (by simp), if_neg (fun e => h7 e.2), if_neg (fun e => e.2 h)]
def prevAs (l : List Tok) (k : Nat) : Bool := match k with
  | 0 => false
  | j + 1 => ((l[j]?).map fun t => decide (t.kind = 5)).getD false
theorem prev_succ {l : List Tok} {k : Nat} {t : Tok} (h : l[k]? = some t) : prevAs l (k + 1) = decide (t.kind = 5) := by simp [prevAs, h]
theorem drop_get {α : Type} {l : List α} {k : Nat} {t : α} (h : l[k]? = some t) : l.drop k = t :: l.drop (k + 1) := by
  have hk := (List.getElem?_eq_some_iff.1 h).1
  rw [List.drop_eq_getElem_cons hk]
  congr 1
  exact (List.getElem?_eq_some_iff.1 h).2
/-- what check answers -/
def checkR (l : List Tok) : Nat × Int := match badS 0 l with
  | some i => (i, 2)
  | none => match chkS false false 0 0 l with
    | some x => x
    | none => (0, 0)
def checkV (r : Nat × Int) : Value := .tuple #[.int .i64 (r.1 : Int), .int .i64 r.2]
set_option maxRecDepth 20000 in
set_option maxHeartbeats 8000000 in
theorem rcheck_any {w : World} {v : Value} {l : List TokB} (h : ReadsT w v l) (hl : l.length ≤ 1000000) (hs : ∀ t ∈ l, t.name.size ≤ 1000000) :
    Calls Tryd.prog 29 #[v] w (KeptPost (checkV (checkR (l.map TokB.tok))) w) := by
  obtain ⟨ao, c, rfl, _, hc⟩ := h
  have HC := Lib.hid hc
  have HS := Lib.hid hs
  have HM : Hid ((l.map TokB.tok).length = l.length) := Lib.hid (by simp)
  have HG : Hid (∀ (k : Nat) (t : TokB), l[k]? = some t → (l.map TokB.tok)[k]? = some t.tok) := Lib.hid (fun k t ht => by rw [List.getElem?_map, ht]; rfl)
  clear hc hs
  generalize l.map TokB.tok = L at *
  generalize hn : l.length = n at *
  have HN := Lib.hid hn
  clear hn
  have H0 : Hid (Kept w w) := Lib.hid (Fr.refl _ _)
  have H1 : Hid (badS 0 L = badS 0 (L.drop 0)) := Lib.hid rfl
  go_enter Tryd.func29, Tryd.ntmps29
  go_wp2
  go_loopw [4] (fun iv wr => ∃ k : Nat, iv = .int .i64 k ∧ k ≤ n ∧ Hid (Kept w wr) ∧ Hid (badS 0 L = badS k (L.drop k))) (fun iv _ => n - (intOf iv).toNat)
  case atStart => exact ⟨0, rfl, by omega, H0, H1⟩
  case round =>
    obtain ⟨k, rfl, hk, hkr, hto⟩ := hrel
    clear H0 H1
    by_cases hlt : k < n
    · have hlti : (k : Int) < n := by omega
      obtain ⟨t, ht⟩ : ∃ t, l[k]? = some t := ⟨_, List.getElem?_eq_getElem (by have := HN.out; omega)⟩
      obtain ⟨g, off, rfl, d0, d1, d2, d3⟩ := HC.out k t ht
      have hsz := HS.out t (List.mem_of_getElem? ht)
      have c0 := hkr.out.cell d0 (fun x => x)
      have c1 := hkr.out.cell d1 (fun x => x)
      have c2 := hkr.out.cell d2 (fun x => x)
      have c3 := hkr.out.cell d3 (fun x => x)
      have HW : Hid (∀ W, Calls Tryd.prog 25 #[.agg #[.int .i64 t.kind, .string t.name, .int .i64 t.of, .int .i64 t.pos]] W (KeptPost (.string (strOf (wordS t.tok))) W)) := Lib.hid (fun W => rword_any t.kind t.name t.of t.pos W hsz)
      have HST : Hid (badS 0 L = if wordS t.tok = [] then some k else badS (k + 1) (L.drop (k + 1))) := Lib.hid (by rw [hto.out, drop_get (HG.out k t ht), badS])
      clear ht d0 d1 d2 d3 hto
      by_cases hw : wordS t.tok = []
      · have q1 : (strOf (wordS t.tok)).toList = [] := by rw [bs_toList, bs_strOf]; exact hw
        have q2 : (strOf (wordS t.tok)).toList.isEmpty = true := by rw [q1]; rfl
        have q3 : ((strOf (wordS t.tok)).toList == []) = true := by rw [q1]; rfl
        have HA : Hid (checkR L = (k, 2)) := Lib.hid (by unfold checkR; rw [HST.out, if_pos hw])
        clear hw HST
        go_wp2_with fail
        refine (HW.out _).mono ?_
        rintro e w2 ⟨rfl, hk2⟩
        have HK2 := Lib.hid (hkr.out.trans hk2)
        clear hk2
        go_wp2
        go_ret2
        exact ⟨by rw [HA.out]; rfl, HK2.out⟩
      · have q1 : ¬ (strOf (wordS t.tok)).toList = [] := by rw [bs_toList, bs_strOf]; exact hw
        have q2 : (strOf (wordS t.tok)).toList.isEmpty = false := by simpa using q1
        have q3 : ((strOf (wordS t.tok)).toList == []) = false := by simpa using q1
        have HB := Lib.hid (HST.out.trans (if_neg hw))
        clear hw HST
        go_wp2_with fail
        refine (HW.out _).mono ?_
        rintro e w2 ⟨rfl, hk2⟩
        have HK2 := Lib.hid (hkr.out.trans hk2)
        clear hk2
        go_wp2
        first
          | (go_roundw
             case rel => exact ⟨k + 1, by go_num, by omega, HK2, HB⟩
             case measure => simp [intOf]; omega)
          | exact ⟨⟨k + 1, by go_num, by omega, HK2, HB⟩, by simp [intOf]; omega⟩
    · have hlti : ¬ (k : Int) < n := by omega
      have HB0 : Hid (badS 0 L = none) := Lib.hid (by rw [hto.out, List.drop_eq_nil_of_le (by rw [HM.out]; omega)]; rfl)
      have HCR : Hid (checkR L = match chkS false false 0 0 L with | some x => x | none => (0, 0)) := Lib.hid (by unfold checkR; rw [HB0.out])
      have H2 : Hid (chkS false false 0 0 L = chkS false (prevAs L 0) 0 0 (L.drop 0)) := Lib.hid rfl
      clear hto hlt
      go_wp2
      have hkr0 := hkr
      go_loopw [5, 6, 7] (fun hv ov iv wr => ∃ (k : Nat) (b : Bool) (op : Nat), hv = .bool b ∧ ov = .int .i64 op ∧ iv = .int .i64 k ∧ k ≤ n ∧ op ≤ 100 ∧ Hid (Kept w wr) ∧ Hid (chkS false false 0 0 L = chkS b (prevAs L k) op k (L.drop k))) (fun _ _ iv _ => n - (intOf iv).toNat)
      case atStart => exact ⟨0, false, 0, rfl, rfl, rfl, by omega, by omega, hkr0, H2⟩
      case round =>
        obtain ⟨k, b, op, rfl, rfl, rfl, hk, hop, hkr, hto⟩ := hrel
        clear H2 hkr0
        by_cases hlt : k < n
        · have hlti : (k : Int) < n := by omega
          obtain ⟨t, ht⟩ : ∃ t, l[k]? = some t := ⟨_, List.getElem?_eq_getElem (by have := HN.out; omega)⟩
          obtain ⟨g, off, rfl, d0, d1, d2, d3⟩ := HC.out k t ht
          have hsz := HS.out t (List.mem_of_getElem? ht)
          have c0 := hkr.out.cell d0 (fun x => x)
          have c1 := hkr.out.cell d1 (fun x => x)
          have c2 := hkr.out.cell d2 (fun x => x)
          have c3 := hkr.out.cell d3 (fun x => x)
          have HPA := Lib.hid (prev_succ (HG.out k t ht))
          have HST : Hid (chkS false false 0 0 L = chkS b (prevAs L k) op k (t.tok :: L.drop (k + 1))) := Lib.hid (by rw [hto.out, drop_get (HG.out k t ht)])
          have HKN : Hid (∀ o, Kept w (wr.alloc o)) := Lib.hid (fun o => hkr.out.trans (Fr.of_alloc _ _ _))
          have HNB : Hid (∀ W, Calls Tryd.prog 52 #[.int .i64 t.kind] W fun e w' => e = .returned (.int .i64 (bindS t.kind : Nat)) ∧ W = w') := Lib.hid (fun W => rbinds_any t.kind W)
          clear hto d0 d1 d2 d3
          have htk : t.tok.kind = t.kind := rfl
          have hto : t.tok.of = t.of := rfl
          rcases k with _ | j
          · have HP0 : Hid (prevAs L 0 = false) := Lib.hid rfl
            rw [HP0.out] at HST
            have pz : decide (0 < 0) = false := rfl
            simp only [Nat.zero_mul, Nat.add_zero] at c0 c1 c2 c3
            clear HP0 ht
            cases b
            · by_cases k1 : t.kind = 1
              · have HN : Hid (chkS false false 0 0 L = chkS true (decide (t.tok.kind = 5)) op (0 + 1) (L.drop (0 + 1))) := Lib.hid (by rw [HST.out, chk_atom k1 (.inl rfl), htk, k1]; rfl)
                clear HST HNB
                rw [k1] at c0
                clear k1
                go_wp2
                go_roundw
                case rel => exact ⟨0 + 1, true, op, rfl, rfl, by go_num, by omega, hop, Lib.hid (HKN.out _), Lib.hid (by rw [HPA.out]; exact HN.out)⟩
                case measure => simp [intOf]; omega
              · have g1 : (t.kind == 1) = false := by simp [k1]
                by_cases k6 : t.kind = 6
                · have g6 : (t.kind == 6) = true := by simp [k6]
                  by_cases h100 : op = 100
                  · subst h100
                    have HA : Hid (checkR L = (0, 3)) := Lib.hid (by rw [HCR.out, HST.out, chk_many k6])
                    clear HST HNB k1 k6
                    go_wp2
                    go_ret2
                    exact ⟨by rw [HA.out]; rfl, HKN.out _⟩
                  · have HN : Hid (chkS false false 0 0 L = chkS false (decide (t.tok.kind = 5)) (op + 1) (0 + 1) (L.drop (0 + 1))) := Lib.hid (by rw [HST.out, chk_open1 k6 h100, htk, k6]; rfl)
                    have g100 : ((op : Int) == 100) = false := by rw [beq_eq_false_iff_ne]; omega
                    clear HST HNB k1 k6
                    go_wp2
                    go_roundw
                    case rel => exact ⟨0 + 1, false, op + 1, rfl, by go_num, by go_num, by omega, by omega, Lib.hid (HKN.out _), Lib.hid (by rw [HPA.out]; exact HN.out)⟩
                    case measure => simp [intOf]; omega
                · have g6 : (t.kind == 6) = false := by simp [k6]
                  have HA : Hid (checkR L = (0, 2)) := Lib.hid (by rw [HCR.out, HST.out, chk_no (fun h => k1 h.1) (fun h => k6 h.1)])
                  clear HST HNB k1 k6
                  go_wp2
                  go_ret2
                  exact ⟨by rw [HA.out]; rfl, HKN.out _⟩
            · by_cases k7 : t.kind = 7
              · have g7 : (t.kind == 7) = true := by simp [k7]
                by_cases h0 : 0 < op
                · have HN : Hid (chkS false false 0 0 L = chkS true (decide (t.tok.kind = 5)) (op - 1) (0 + 1) (L.drop (0 + 1))) := Lib.hid (by rw [HST.out, chk_close1 k7 h0, htk, k7]; rfl)
                  have h0i : (0 : Int) < (op : Int) := by omega
                  clear HST HNB k7
                  go_wp2
                  go_roundw
                  case rel => exact ⟨0 + 1, true, op - 1, rfl, by go_num, by go_num, by omega, by omega, Lib.hid (HKN.out _), Lib.hid (by rw [HPA.out]; exact HN.out)⟩
                  case measure => simp [intOf]; omega
                · have HA : Hid (checkR L = (0, 2)) := Lib.hid (by rw [HCR.out, HST.out, chk_not (fun h => h0 h.2) (by rw [htk, k7]; rfl)])
                  have h0i : ¬ (0 : Int) < (op : Int) := by omega
                  have hb : bindS t.kind = 0 := by rw [k7]; rfl
                  rw [hb] at HNB
                  clear HST k7 hb
                  go_wp2_with (go_at_call 52; refine (HNB.out _).mono ?_; rintro e w' ⟨rfl, rfl⟩)
                  go_ret2
                  exact ⟨by rw [HA.out]; rfl, HKN.out _⟩
              · have g7 : (t.kind == 7) = false := by simp [k7]
                by_cases hb : bindS t.kind = 0
                · have HA : Hid (checkR L = (0, 2)) := Lib.hid (by rw [HCR.out, HST.out, chk_not (fun h => k7 h.1) hb])
                  rw [hb] at HNB
                  clear HST k7 hb
                  go_wp2_with (go_at_call 52; refine (HNB.out _).mono ?_; rintro e w' ⟨rfl, rfl⟩)
                  go_ret2
                  exact ⟨by rw [HA.out]; rfl, HKN.out _⟩
                · have HN : Hid (chkS false false 0 0 L = chkS false (decide (t.tok.kind = 5)) op (0 + 1) (L.drop (0 + 1))) := Lib.hid (by rw [HST.out, chk_sign hb])
                  have hbi : (0 : Int) < (bindS t.kind : Nat) := by omega
                  clear HST k7
                  generalize bindS t.kind = bk at *
                  go_wp2_with (go_at_call 52; refine (HNB.out _).mono ?_; rintro e w' ⟨rfl, rfl⟩)
                  go_roundw
                  case rel => exact ⟨0 + 1, false, op, rfl, rfl, by go_num, by omega, hop, Lib.hid (HKN.out _), Lib.hid (by rw [HPA.out]; exact HN.out)⟩
                  case measure => simp [intOf]; omega
          · obtain ⟨u, hu⟩ : ∃ u, l[j]? = some u := ⟨_, List.getElem?_eq_getElem (by have := HN.out; omega)⟩
            obtain ⟨g', off', he, d0, _⟩ := HC.out j u hu
            cases he
            have p0 := hkr.out.cell d0 (fun x => x)
            have p0a := fun o => (hkr.out.trans (Fr.of_alloc (fun _ => False) wr o)).cell d0 (fun x => x)
            have HPJ := Lib.hid (prev_succ (HG.out j u hu))
            have huk : u.tok.kind = u.kind := rfl
            have pz : (0 : Int) < ((j + 1 : Nat) : Int) := by omega
            have pj : ((j + 1 : Nat) : Int) - 1 = (j : Int) := by omega
            clear ht d0 hu
            by_cases hp5 : u.kind = 5
            · have gp : (u.kind == 5) = true := by simp [hp5]
              have HP1 : Hid (prevAs L (j + 1) = true) := Lib.hid (by rw [HPJ.out, huk, hp5]; rfl)
              rw [HP1.out] at HST
              clear hp5 HPJ
              cases b
              · by_cases k1 : t.kind = 1
                · by_cases k5 : t.of = 5
                  · have HN : Hid (chkS false false 0 0 L = chkS true (decide (t.tok.kind = 5)) op ((j + 1) + 1) (L.drop ((j + 1) + 1))) := Lib.hid (by rw [HST.out, chk_atom k1 (.inr k5), htk, k1]; rfl)
                    clear HST HNB
                    rw [k1] at c0
                    rw [k5] at c2
                    clear k1 k5
                    go_wp2
                    go_roundw
                    case rel => exact ⟨(j + 1) + 1, true, op, rfl, rfl, by go_num, by omega, hop, Lib.hid (HKN.out _), Lib.hid (by rw [HPA.out]; exact HN.out)⟩
                    case measure => simp [intOf]; omega
                  · have HA : Hid (checkR L = ((j + 1), 2)) := Lib.hid (by rw [HCR.out, HST.out, chk_no (fun e => e.2.elim (fun h => by cases h) k5) (by rintro ⟨_, h⟩; cases h)])
                    have g5 : (t.of == 5) = false := by simp [k5]
                    clear HST HNB
                    rw [k1] at c0
                    clear k1 k5
                    go_wp2
                    go_ret2
                    exact ⟨by rw [HA.out]; rfl, HKN.out _⟩
                · have g1 : (t.kind == 1) = false := by simp [k1]
                  have HA : Hid (checkR L = ((j + 1), 2)) := Lib.hid (by rw [HCR.out, HST.out, chk_no (fun h => k1 h.1) (by rintro ⟨_, h⟩; cases h)])
                  by_cases k6 : t.kind = 6
                  · have g6 : (t.kind == 6) = true := by simp [k6]
                    clear HST HNB k1 k6
                    go_wp2
                    go_ret2
                    exact ⟨by rw [HA.out]; rfl, HKN.out _⟩
                  · have g6 : (t.kind == 6) = false := by simp [k6]
                    clear HST HNB k1 k6
                    go_wp2
                    go_ret2
                    exact ⟨by rw [HA.out]; rfl, HKN.out _⟩
              · by_cases k7 : t.kind = 7
                · have g7 : (t.kind == 7) = true := by simp [k7]
                  by_cases h0 : 0 < op
                  · have HN : Hid (chkS false false 0 0 L = chkS true (decide (t.tok.kind = 5)) (op - 1) ((j + 1) + 1) (L.drop ((j + 1) + 1))) := Lib.hid (by rw [HST.out, chk_close1 k7 h0, htk, k7]; rfl)
                    have h0i : (0 : Int) < (op : Int) := by omega
                    clear HST HNB k7
                    go_wp2
                    go_roundw
                    case rel => exact ⟨(j + 1) + 1, true, op - 1, rfl, by go_num, by go_num, by omega, by omega, Lib.hid (HKN.out _), Lib.hid (by rw [HPA.out]; exact HN.out)⟩
                    case measure => simp [intOf]; omega
                  · have HA : Hid (checkR L = ((j + 1), 2)) := Lib.hid (by rw [HCR.out, HST.out, chk_not (fun h => h0 h.2) (by rw [htk, k7]; rfl)])
                    have h0i : ¬ (0 : Int) < (op : Int) := by omega
                    have hb : bindS t.kind = 0 := by rw [k7]; rfl
                    rw [hb] at HNB
                    clear HST k7 hb
                    go_wp2_with (go_at_call 52; refine (HNB.out _).mono ?_; rintro e w' ⟨rfl, rfl⟩)
                    go_ret2
                    exact ⟨by rw [HA.out]; rfl, HKN.out _⟩
                · have g7 : (t.kind == 7) = false := by simp [k7]
                  by_cases hb : bindS t.kind = 0
                  · have HA : Hid (checkR L = ((j + 1), 2)) := Lib.hid (by rw [HCR.out, HST.out, chk_not (fun h => k7 h.1) hb])
                    rw [hb] at HNB
                    clear HST k7 hb
                    go_wp2_with (go_at_call 52; refine (HNB.out _).mono ?_; rintro e w' ⟨rfl, rfl⟩)
                    go_ret2
                    exact ⟨by rw [HA.out]; rfl, HKN.out _⟩
                  · have HN : Hid (chkS false false 0 0 L = chkS false (decide (t.tok.kind = 5)) op ((j + 1) + 1) (L.drop ((j + 1) + 1))) := Lib.hid (by rw [HST.out, chk_sign hb])
                    have hbi : (0 : Int) < (bindS t.kind : Nat) := by omega
                    clear HST k7
                    generalize bindS t.kind = bk at *
                    go_wp2_with (go_at_call 52; refine (HNB.out _).mono ?_; rintro e w' ⟨rfl, rfl⟩)
                    go_roundw
                    case rel => exact ⟨(j + 1) + 1, false, op, rfl, rfl, by go_num, by omega, hop, Lib.hid (HKN.out _), Lib.hid (by rw [HPA.out]; exact HN.out)⟩
                    case measure => simp [intOf]; omega
            · have gp : (u.kind == 5) = false := by simp [hp5]
              have HP1 : Hid (prevAs L (j + 1) = false) := Lib.hid (by rw [HPJ.out, huk, decide_eq_false hp5])
              rw [HP1.out] at HST
              clear hp5 HPJ
              cases b
              · by_cases k1 : t.kind = 1
                · have HN : Hid (chkS false false 0 0 L = chkS true (decide (t.tok.kind = 5)) op ((j + 1) + 1) (L.drop ((j + 1) + 1))) := Lib.hid (by rw [HST.out, chk_atom k1 (.inl rfl), htk, k1]; rfl)
                  clear HST HNB
                  rw [k1] at c0
                  clear k1
                  go_wp2
                  go_roundw
                  case rel => exact ⟨(j + 1) + 1, true, op, rfl, rfl, by go_num, by omega, hop, Lib.hid (HKN.out _), Lib.hid (by rw [HPA.out]; exact HN.out)⟩
                  case measure => simp [intOf]; omega
                · have g1 : (t.kind == 1) = false := by simp [k1]
                  by_cases k6 : t.kind = 6
                  · have g6 : (t.kind == 6) = true := by simp [k6]
                    by_cases h100 : op = 100
                    · subst h100
                      have HA : Hid (checkR L = ((j + 1), 3)) := Lib.hid (by rw [HCR.out, HST.out, chk_many k6])
                      clear HST HNB k1 k6
                      go_wp2
                      go_ret2
                      exact ⟨by rw [HA.out]; rfl, HKN.out _⟩
                    · have HN : Hid (chkS false false 0 0 L = chkS false (decide (t.tok.kind = 5)) (op + 1) ((j + 1) + 1) (L.drop ((j + 1) + 1))) := Lib.hid (by rw [HST.out, chk_open1 k6 h100, htk, k6]; rfl)
                      have g100 : ((op : Int) == 100) = false := by rw [beq_eq_false_iff_ne]; omega
                      clear HST HNB k1 k6
                      go_wp2
                      go_roundw
                      case rel => exact ⟨(j + 1) + 1, false, op + 1, rfl, by go_num, by go_num, by omega, by omega, Lib.hid (HKN.out _), Lib.hid (by rw [HPA.out]; exact HN.out)⟩
                      case measure => simp [intOf]; omega
                  · have g6 : (t.kind == 6) = false := by simp [k6]
                    have HA : Hid (checkR L = ((j + 1), 2)) := Lib.hid (by rw [HCR.out, HST.out, chk_no (fun h => k1 h.1) (fun h => k6 h.1)])
                    clear HST HNB k1 k6
                    go_wp2
                    go_ret2
                    exact ⟨by rw [HA.out]; rfl, HKN.out _⟩
              · by_cases k7 : t.kind = 7
                · have g7 : (t.kind == 7) = true := by simp [k7]
                  by_cases h0 : 0 < op
                  · have HN : Hid (chkS false false 0 0 L = chkS true (decide (t.tok.kind = 5)) (op - 1) ((j + 1) + 1) (L.drop ((j + 1) + 1))) := Lib.hid (by rw [HST.out, chk_close1 k7 h0, htk, k7]; rfl)
                    have h0i : (0 : Int) < (op : Int) := by omega
                    clear HST HNB k7
                    go_wp2
                    go_roundw
                    case rel => exact ⟨(j + 1) + 1, true, op - 1, rfl, by go_num, by go_num, by omega, by omega, Lib.hid (HKN.out _), Lib.hid (by rw [HPA.out]; exact HN.out)⟩
                    case measure => simp [intOf]; omega
                  · have HA : Hid (checkR L = ((j + 1), 2)) := Lib.hid (by rw [HCR.out, HST.out, chk_not (fun h => h0 h.2) (by rw [htk, k7]; rfl)])
                    have h0i : ¬ (0 : Int) < (op : Int) := by omega
                    have hb : bindS t.kind = 0 := by rw [k7]; rfl
                    rw [hb] at HNB
                    clear HST k7 hb
                    go_wp2_with (go_at_call 52; refine (HNB.out _).mono ?_; rintro e w' ⟨rfl, rfl⟩)
                    go_ret2
                    exact ⟨by rw [HA.out]; rfl, HKN.out _⟩
                · have g7 : (t.kind == 7) = false := by simp [k7]
                  by_cases hb : bindS t.kind = 0
                  · have HA : Hid (checkR L = ((j + 1), 2)) := Lib.hid (by rw [HCR.out, HST.out, chk_not (fun h => k7 h.1) hb])
                    rw [hb] at HNB
                    clear HST k7 hb
                    go_wp2_with (go_at_call 52; refine (HNB.out _).mono ?_; rintro e w' ⟨rfl, rfl⟩)
                    go_ret2
                    exact ⟨by rw [HA.out]; rfl, HKN.out _⟩
                  · have HN : Hid (chkS false false 0 0 L = chkS false (decide (t.tok.kind = 5)) op ((j + 1) + 1) (L.drop ((j + 1) + 1))) := Lib.hid (by rw [HST.out, chk_sign hb])
                    have hbi : (0 : Int) < (bindS t.kind : Nat) := by omega
                    clear HST k7
                    generalize bindS t.kind = bk at *
                    go_wp2_with (go_at_call 52; refine (HNB.out _).mono ?_; rintro e w' ⟨rfl, rfl⟩)
                    go_roundw
                    case rel => exact ⟨(j + 1) + 1, false, op, rfl, rfl, by go_num, by omega, hop, Lib.hid (HKN.out _), Lib.hid (by rw [HPA.out]; exact HN.out)⟩
                    case measure => simp [intOf]; omega
        · have hlti : ¬ (k : Int) < n := by omega
          have HE : Hid (chkS false false 0 0 L = if b = true ∧ op = 0 then none else some (k, 2)) := Lib.hid (by rw [hto.out, List.drop_eq_nil_of_le (by rw [HM.out]; omega), chkS])
          have hkn : Hid (k = n) := Lib.hid (by omega)
          cases b
          · have HA : Hid (checkR L = (n, 2)) := Lib.hid (by rw [HCR.out, HE.out, if_neg (by simp), hkn.out])
            clear HE hto hkn
            go_wp2
            go_ret2
            exact ⟨by rw [HA.out]; rfl, hkr.out⟩
          · by_cases h0 : op = 0
            · have HA : Hid (checkR L = (0, 0)) := Lib.hid (by rw [HCR.out, HE.out, if_pos ⟨rfl, h0⟩])
              have h0i : ¬ (0 : Int) < (op : Int) := by omega
              clear HE hto hkn
              go_wp2
              go_ret2
              exact ⟨by rw [HA.out]; rfl, hkr.out⟩
            · have HA : Hid (checkR L = (n, 2)) := Lib.hid (by rw [HCR.out, HE.out, if_neg (by simp [h0]), hkn.out])
              have h0i : (0 : Int) < (op : Int) := by omega
              clear HE hto hkn
              go_wp2
              go_ret2
              exact ⟨by rw [HA.out]; rfl, hkr.out⟩

end Go.Proofs.YtdapdpmplbifdaaDoor
