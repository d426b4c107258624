/- Contracts and lemmas: Ct -/
import Derived.Test.YtbfealhbdemhmaaGreatDoorEm
import Derived.RegionTactic
import Derived.BigRegion
import Derived.Laws.ResultCell
import Derived.Laws.Concat
namespace Go.Proofs.YtbfealhbdemhmaaGreatDoor
set_option linter.unusedVariables false
set_option linter.unusedSimpArgs false
open Go.RowKit Go.ChangeShapes Go.WideShapes
theorem chk_atom {t : Tok} {r : List Tok} {ga : Bool} {op k : Nat} (h : t.kind = 1) (ha : ga = false ∨ t.of = 5) : chkS false ga op k (t :: r) = chkS true false op (k + 1) r := by rw [chkS, if_pos ⟨rfl, h, ha⟩]
theorem chk_open1 {t : Tok} {r : List Tok} {op k : Nat} (h : t.kind = 6) (ho : op ≠ 100) : chkS false false op k (t :: r) = chkS false false (op + 1) (k + 1) r := by
  rw [chkS, if_neg (by rw [h]; simp), if_pos ⟨rfl, h, rfl⟩, if_neg ho]
theorem chk_many {t : Tok} {r : List Tok} {k : Nat} (h : t.kind = 6) : chkS false false 100 k (t :: r) = some (k, 3) := by
  rw [chkS, if_neg (by rw [h]; simp), if_pos ⟨rfl, h, rfl⟩, if_pos rfl]
theorem chk_no {t : Tok} {r : List Tok} {ga : Bool} {op k : Nat} (h1 : ¬ (t.kind = 1 ∧ (ga = false ∨ t.of = 5))) (h6 : ¬ (t.kind = 6 ∧ ga = false)) : chkS false ga op k (t :: r) = some (k, 2) := by
  rw [chkS, if_neg (fun e => h1 e.2), if_neg (fun e => h6 e.2), if_neg (by simp), if_neg (by simp)]
theorem chk_close1 {t : Tok} {r : List Tok} {ga : Bool} {op k : Nat} (h : t.kind = 7) (ho : 0 < op) : chkS true ga op k (t :: r) = chkS true false (op - 1) (k + 1) r := by
  rw [chkS, if_neg (by simp), if_neg (by simp), if_pos ⟨rfl, h, ho⟩]
theorem chk_sign {t : Tok} {r : List Tok} {ga : Bool} {op k : Nat} (h : bindS t.kind ≠ 0) : chkS true ga op k (t :: r) = chkS false (decide (t.kind = 5)) op (k + 1) r := by
  rw [chkS, if_neg (by simp), if_neg (by simp), if_neg (by rintro ⟨_, h7, _⟩; rw [h7] at h; exact h rfl), if_pos ⟨rfl, h⟩]
theorem chk_not {t : Tok} {r : List Tok} {ga : Bool} {op k : Nat} (h7 : ¬ (t.kind = 7 ∧ 0 < op)) (h : bindS t.kind = 0) : chkS true ga op k (t :: r) = some (k, 2) := by
  rw [chkS, if_neg (by simp), if_neg (by simp), if_neg (fun e => h7 e.2), if_neg (fun e => e.2 h)]
def prevAs (l : List Tok) (k : Nat) : Bool := match k with
  | 0 => false
  | j + 1 => ((l[j]?).map fun t => decide (t.kind = 5)).getD false
theorem prev_succ {l : List Tok} {k : Nat} {t : Tok} (h : l[k]? = some t) : prevAs l (k + 1) = decide (t.kind = 5) := by simp [prevAs, h]
theorem drop_get {α : Type} {l : List α} {k : Nat} {t : α} (h : l[k]? = some t) : l.drop k = t :: l.drop (k + 1) := by
  have hk := (List.getElem?_eq_some_iff.1 h).1
  rw [List.drop_eq_getElem_cons hk]
  congr 1
  exact (List.getElem?_eq_some_iff.1 h).2
/-- what check answers -/
def checkR (l : List Tok) : Nat × Int := match badS 0 l with
  | some i => (i, 2)
  | none => match chkS false false 0 0 l with
    | some x => x
    | none => (0, 0)
def checkV (r : Nat × Int) : Value := .tuple #[.int .i64 (r.1 : Int), .int .i64 r.2]
set_option maxRecDepth 20000 in
set_option maxHeartbeats 8000000 in
theorem rcheck_any {w : World} {v : Value} {l : List TokB} (h : ReadsT w v l) (hl : l.length ≤ 1000000) (hs : ∀ t ∈ l, t.name.size ≤ 1000000) :
    Calls Tryz.prog 108 #[v] w (KeptPost (checkV (checkR (l.map TokB.tok))) w) := by
  obtain ⟨ao, c, rfl, _, hc⟩ := h
  have HC := Lib.hid hc
  have HS := Lib.hid hs
  have HM : Hid ((l.map TokB.tok).length = l.length) := Lib.hid (by simp)
  have HG : Hid (∀ (k : Nat) (t : TokB), l[k]? = some t → (l.map TokB.tok)[k]? = some t.tok) := Lib.hid (fun k t ht => by rw [List.getElem?_map, ht]; rfl)
  clear hc hs
  generalize l.map TokB.tok = L at *
  generalize hn : l.length = n at *
  have HN := Lib.hid hn
  clear hn
  have H0 : Hid (Kept w w) := Lib.hid (Fr.refl _ _)
  have H1 : Hid (badS 0 L = badS 0 (L.drop 0)) := Lib.hid rfl
  go_enter Tryz.func108, Tryz.ntmps108
  go_wp2
  go_loopw [4] (fun iv wr => ∃ k : Nat, iv = .int .i64 k ∧ k ≤ n ∧ Hid (Kept w wr) ∧ Hid (badS 0 L = badS k (L.drop k))) (fun iv _ => n - (intOf iv).toNat)
  case atStart => exact ⟨0, rfl, by omega, H0, H1⟩
  case round =>
    obtain ⟨k, rfl, hk, hkr, hto⟩ := hrel
    clear H0 H1
    by_cases hlt : k < n
    · have hlti : (k : Int) < n := by omega
      obtain ⟨t, ht⟩ : ∃ t, l[k]? = some t := ⟨_, List.getElem?_eq_getElem (by have := HN.out; omega)⟩
      obtain ⟨g, off, rfl, d0, d1, d2, d3⟩ := HC.out k t ht
      have hsz := HS.out t (List.mem_of_getElem? ht)
      have c0 := hkr.out.cell d0 (fun x => x)
      have c1 := hkr.out.cell d1 (fun x => x)
      have c2 := hkr.out.cell d2 (fun x => x)
      have c3 := hkr.out.cell d3 (fun x => x)
      have HW : Hid (∀ W, Calls Tryz.prog 41 #[.agg #[.int .i64 t.kind, .string t.name, .int .i64 t.of, .int .i64 t.pos]] W (KeptPost (.string (strOf (wordS t.tok))) W)) := Lib.hid (fun W => rword_any t.kind t.name t.of t.pos W hsz)
      have HST : Hid (badS 0 L = if wordS t.tok = [] then some k else badS (k + 1) (L.drop (k + 1))) := Lib.hid (by rw [hto.out, drop_get (HG.out k t ht), badS])
      clear ht d0 d1 d2 d3 hto
      by_cases hw : wordS t.tok = []
      · have q1 : (strOf (wordS t.tok)).toList = [] := by rw [bs_toList, bs_strOf]; exact hw
        have q2 : (strOf (wordS t.tok)).toList.isEmpty = true := by rw [q1]; rfl
        have q3 : ((strOf (wordS t.tok)).toList == []) = true := by rw [q1]; rfl
        have HA : Hid (checkR L = (k, 2)) := Lib.hid (by unfold checkR; rw [HST.out, if_pos hw])
        clear hw HST
        go_wp2_with fail
        refine (HW.out _).mono ?_
        rintro e w2 ⟨rfl, hk2⟩
        have HK2 := Lib.hid (hkr.out.trans hk2)
        clear hk2
        go_wp2
        go_ret2
        exact ⟨by rw [HA.out]; rfl, HK2.out⟩
      · have q1 : ¬ (strOf (wordS t.tok)).toList = [] := by rw [bs_toList, bs_strOf]; exact hw
        have q2 : (strOf (wordS t.tok)).toList.isEmpty = false := by simpa using q1
        have q3 : ((strOf (wordS t.tok)).toList == []) = false := by simpa using q1
        have HB := Lib.hid (HST.out.trans (if_neg hw))
        clear hw HST
        go_wp2_with fail
        refine (HW.out _).mono ?_
        rintro e w2 ⟨rfl, hk2⟩
        have HK2 := Lib.hid (hkr.out.trans hk2)
        clear hk2
        go_wp2
        first
          | (go_roundw
             case rel => exact ⟨k + 1, by go_num, by omega, HK2, HB⟩
             case measure => simp [intOf]; omega)
          | exact ⟨⟨k + 1, by go_num, by omega, HK2, HB⟩, by simp [intOf]; omega⟩
    · have hlti : ¬ (k : Int) < n := by omega
      have HB0 : Hid (badS 0 L = none) := Lib.hid (by rw [hto.out, List.drop_eq_nil_of_le (by rw [HM.out]; omega)]; rfl)
      have HCR : Hid (checkR L = match chkS false false 0 0 L with | some x => x | none => (0, 0)) := Lib.hid (by unfold checkR; rw [HB0.out])
      have H2 : Hid (chkS false false 0 0 L = chkS false (prevAs L 0) 0 0 (L.drop 0)) := Lib.hid rfl
      clear hto hlt
      go_wp2
      have hkr0 := hkr
      go_loopw [5, 6, 7] (fun hv ov iv wr => ∃ (k : Nat) (b : Bool) (op : Nat), hv = .bool b ∧ ov = .int .i64 op ∧ iv = .int .i64 k ∧ k ≤ n ∧ op ≤ 100 ∧ Hid (Kept w wr) ∧ Hid (chkS false false 0 0 L = chkS b (prevAs L k) op k (L.drop k))) (fun _ _ iv _ => n - (intOf iv).toNat)
      case atStart => exact ⟨0, false, 0, rfl, rfl, rfl, by omega, by omega, hkr0, H2⟩
      case round =>
        obtain ⟨k, b, op, rfl, rfl, rfl, hk, hop, hkr, hto⟩ := hrel
        clear H2 hkr0
        by_cases hlt : k < n
        · have hlti : (k : Int) < n := by omega
          obtain ⟨t, ht⟩ : ∃ t, l[k]? = some t := ⟨_, List.getElem?_eq_getElem (by have := HN.out; omega)⟩
          obtain ⟨g, off, rfl, d0, d1, d2, d3⟩ := HC.out k t ht
          have hsz := HS.out t (List.mem_of_getElem? ht)
          have c0 := hkr.out.cell d0 (fun x => x)
          have c1 := hkr.out.cell d1 (fun x => x)
          have c2 := hkr.out.cell d2 (fun x => x)
          have c3 := hkr.out.cell d3 (fun x => x)
          have HPA := Lib.hid (prev_succ (HG.out k t ht))
          have HST : Hid (chkS false false 0 0 L = chkS b (prevAs L k) op k (t.tok :: L.drop (k + 1))) := Lib.hid (by rw [hto.out, drop_get (HG.out k t ht)])
          have HKN : Hid (∀ o, Kept w (wr.alloc o)) := Lib.hid (fun o => hkr.out.trans (Fr.of_alloc _ _ _))
          have HNB : Hid (∀ W, Calls Tryz.prog 116 #[.int .i64 t.kind] W fun e w' => e = .returned (.int .i64 (bindS t.kind : Nat)) ∧ W = w') := Lib.hid (fun W => rbinds_any t.kind W)
          clear hto d0 d1 d2 d3
          have htk : t.tok.kind = t.kind := rfl
          have hto : t.tok.of = t.of := rfl
          rcases k with _ | j
          · have HP0 : Hid (prevAs L 0 = false) := Lib.hid rfl
            rw [HP0.out] at HST
            have pz : decide (0 < 0) = false := rfl
            simp only [Nat.zero_mul, Nat.add_zero] at c0 c1 c2 c3
            clear HP0 ht
            cases b
            · by_cases k1 : t.kind = 1
              · have HN : Hid (chkS false false 0 0 L = chkS true (decide (t.tok.kind = 5)) op (0 + 1) (L.drop (0 + 1))) := Lib.hid (by rw [HST.out, chk_atom k1 (.inl rfl), htk, k1]; rfl)
                clear HST HNB
                rw [k1] at c0
                clear k1
                go_wp2
                go_roundw
                case rel => exact ⟨0 + 1, true, op, rfl, rfl, by go_num, by omega, hop, Lib.hid (HKN.out _), Lib.hid (by rw [HPA.out]; exact HN.out)⟩
                case measure => simp [intOf]; omega
              · have g1 : (t.kind == 1) = false := by simp [k1]
                by_cases k6 : t.kind = 6
                · have g6 : (t.kind == 6) = true := by simp [k6]
                  by_cases h100 : op = 100
                  · subst h100
                    have HA : Hid (checkR L = (0, 3)) := Lib.hid (by rw [HCR.out, HST.out, chk_many k6])
                    clear HST HNB k1 k6
                    go_wp2
                    go_ret2
                    exact ⟨by rw [HA.out]; rfl, HKN.out _⟩
                  · have HN : Hid (chkS false false 0 0 L = chkS false (decide (t.tok.kind = 5)) (op + 1) (0 + 1) (L.drop (0 + 1))) := Lib.hid (by rw [HST.out, chk_open1 k6 h100, htk, k6]; rfl)
                    have g100 : ((op : Int) == 100) = false := by rw [beq_eq_false_iff_ne]; omega
                    clear HST HNB k1 k6
                    go_wp2
                    go_roundw
                    case rel => exact ⟨0 + 1, false, op + 1, rfl, by go_num, by go_num, by omega, by omega, Lib.hid (HKN.out _), Lib.hid (by rw [HPA.out]; exact HN.out)⟩
                    case measure => simp [intOf]; omega
                · have g6 : (t.kind == 6) = false := by simp [k6]
                  have HA : Hid (checkR L = (0, 2)) := Lib.hid (by rw [HCR.out, HST.out, chk_no (fun h => k1 h.1) (fun h => k6 h.1)])
                  clear HST HNB k1 k6
                  go_wp2
                  go_ret2
                  exact ⟨by rw [HA.out]; rfl, HKN.out _⟩
            · by_cases k7 : t.kind = 7
              · have g7 : (t.kind == 7) = true := by simp [k7]
                by_cases h0 : 0 < op
                · have HN : Hid (chkS false false 0 0 L = chkS true (decide (t.tok.kind = 5)) (op - 1) (0 + 1) (L.drop (0 + 1))) := Lib.hid (by rw [HST.out, chk_close1 k7 h0, htk, k7]; rfl)
                  have h0i : (0 : Int) < (op : Int) := by omega
                  clear HST HNB k7
                  go_wp2
                  go_roundw
                  case rel => exact ⟨0 + 1, true, op - 1, rfl, by go_num, by go_num, by omega, by omega, Lib.hid (HKN.out _), Lib.hid (by rw [HPA.out]; exact HN.out)⟩
                  case measure => simp [intOf]; omega
                · have HA : Hid (checkR L = (0, 2)) := Lib.hid (by rw [HCR.out, HST.out, chk_not (fun h => h0 h.2) (by rw [htk, k7]; rfl)])
                  have h0i : ¬ (0 : Int) < (op : Int) := by omega
                  have hb : bindS t.kind = 0 := by rw [k7]; rfl
                  rw [hb] at HNB
                  clear HST k7 hb
                  go_wp2_with (go_at_call 116; refine (HNB.out _).mono ?_; rintro e w' ⟨rfl, rfl⟩)
                  go_ret2
                  exact ⟨by rw [HA.out]; rfl, HKN.out _⟩
              · have g7 : (t.kind == 7) = false := by simp [k7]
                by_cases hb : bindS t.kind = 0
                · have HA : Hid (checkR L = (0, 2)) := Lib.hid (by rw [HCR.out, HST.out, chk_not (fun h => k7 h.1) hb])
                  rw [hb] at HNB
                  clear HST k7 hb
                  go_wp2_with (go_at_call 116; refine (HNB.out _).mono ?_; rintro e w' ⟨rfl, rfl⟩)
                  go_ret2
                  exact ⟨by rw [HA.out]; rfl, HKN.out _⟩
                · have HN : Hid (chkS false false 0 0 L = chkS false (decide (t.tok.kind = 5)) op (0 + 1) (L.drop (0 + 1))) := Lib.hid (by rw [HST.out, chk_sign hb])
                  have hbi : (0 : Int) < (bindS t.kind : Nat) := by omega
                  clear HST k7
                  generalize bindS t.kind = bk at *
                  go_wp2_with (go_at_call 116; refine (HNB.out _).mono ?_; rintro e w' ⟨rfl, rfl⟩)
                  go_roundw
                  case rel => exact ⟨0 + 1, false, op, rfl, rfl, by go_num, by omega, hop, Lib.hid (HKN.out _), Lib.hid (by rw [HPA.out]; exact HN.out)⟩
                  case measure => simp [intOf]; omega
          · obtain ⟨u, hu⟩ : ∃ u, l[j]? = some u := ⟨_, List.getElem?_eq_getElem (by have := HN.out; omega)⟩
            obtain ⟨g', off', he, d0, _⟩ := HC.out j u hu
            cases he
            have p0 := hkr.out.cell d0 (fun x => x)
            have p0a := fun o => (hkr.out.trans (Fr.of_alloc (fun _ => False) wr o)).cell d0 (fun x => x)
            have HPJ := Lib.hid (prev_succ (HG.out j u hu))
            have huk : u.tok.kind = u.kind := rfl
            have pz : (0 : Int) < ((j + 1 : Nat) : Int) := by omega
            have pj : ((j + 1 : Nat) : Int) - 1 = (j : Int) := by omega
            clear ht d0 hu
            by_cases hp5 : u.kind = 5
            · have gp : (u.kind == 5) = true := by simp [hp5]
              have HP1 : Hid (prevAs L (j + 1) = true) := Lib.hid (by rw [HPJ.out, huk, hp5]; rfl)
              rw [HP1.out] at HST
              clear hp5 HPJ
              cases b
              · by_cases k1 : t.kind = 1
                · by_cases k5 : t.of = 5
                  · have HN : Hid (chkS false false 0 0 L = chkS true (decide (t.tok.kind = 5)) op ((j + 1) + 1) (L.drop ((j + 1) + 1))) := Lib.hid (by rw [HST.out, chk_atom k1 (.inr k5), htk, k1]; rfl)
                    clear HST HNB
                    rw [k1] at c0
                    rw [k5] at c2
                    clear k1 k5
                    go_wp2
                    go_roundw
                    case rel => exact ⟨(j + 1) + 1, true, op, rfl, rfl, by go_num, by omega, hop, Lib.hid (HKN.out _), Lib.hid (by rw [HPA.out]; exact HN.out)⟩
                    case measure => simp [intOf]; omega
                  · have HA : Hid (checkR L = ((j + 1), 2)) := Lib.hid (by rw [HCR.out, HST.out, chk_no (fun e => e.2.elim (fun h => by cases h) k5) (by rintro ⟨_, h⟩; cases h)])
                    have g5 : (t.of == 5) = false := by simp [k5]
                    clear HST HNB
                    rw [k1] at c0
                    clear k1 k5
                    go_wp2
                    go_ret2
                    exact ⟨by rw [HA.out]; rfl, HKN.out _⟩
                · have g1 : (t.kind == 1) = false := by simp [k1]
                  have HA : Hid (checkR L = ((j + 1), 2)) := Lib.hid (by rw [HCR.out, HST.out, chk_no (fun h => k1 h.1) (by rintro ⟨_, h⟩; cases h)])
                  by_cases k6 : t.kind = 6
                  · have g6 : (t.kind == 6) = true := by simp [k6]
                    clear HST HNB k1 k6
                    go_wp2
                    go_ret2
                    exact ⟨by rw [HA.out]; rfl, HKN.out _⟩
                  · have g6 : (t.kind == 6) = false := by simp [k6]
                    clear HST HNB k1 k6
                    go_wp2
                    go_ret2
                    exact ⟨by rw [HA.out]; rfl, HKN.out _⟩
              · by_cases k7 : t.kind = 7
                · have g7 : (t.kind == 7) = true := by simp [k7]
                  by_cases h0 : 0 < op
                  · have HN : Hid (chkS false false 0 0 L = chkS true (decide (t.tok.kind = 5)) (op - 1) ((j + 1) + 1) (L.drop ((j + 1) + 1))) := Lib.hid (by rw [HST.out, chk_close1 k7 h0, htk, k7]; rfl)
                    have h0i : (0 : Int) < (op : Int) := by omega
                    clear HST HNB k7
                    go_wp2
                    go_roundw
                    case rel => exact ⟨(j + 1) + 1, true, op - 1, rfl, by go_num, by go_num, by omega, by omega, Lib.hid (HKN.out _), Lib.hid (by rw [HPA.out]; exact HN.out)⟩
                    case measure => simp [intOf]; omega
                  · have HA : Hid (checkR L = ((j + 1), 2)) := Lib.hid (by rw [HCR.out, HST.out, chk_not (fun h => h0 h.2) (by rw [htk, k7]; rfl)])
                    have h0i : ¬ (0 : Int) < (op : Int) := by omega
                    have hb : bindS t.kind = 0 := by rw [k7]; rfl
                    rw [hb] at HNB
                    clear HST k7 hb
                    go_wp2_with (go_at_call 116; refine (HNB.out _).mono ?_; rintro e w' ⟨rfl, rfl⟩)
                    go_ret2
                    exact ⟨by rw [HA.out]; rfl, HKN.out _⟩
                · have g7 : (t.kind == 7) = false := by simp [k7]
                  by_cases hb : bindS t.kind = 0
                  · have HA : Hid (checkR L = ((j + 1), 2)) := Lib.hid (by rw [HCR.out, HST.out, chk_not (fun h => k7 h.1) hb])
                    rw [hb] at HNB
                    clear HST k7 hb
                    go_wp2_with (go_at_call 116; refine (HNB.out _).mono ?_; rintro e w' ⟨rfl, rfl⟩)
                    go_ret2
                    exact ⟨by rw [HA.out]; rfl, HKN.out _⟩
                  · have HN : Hid (chkS false false 0 0 L = chkS false (decide (t.tok.kind = 5)) op ((j + 1) + 1) (L.drop ((j + 1) + 1))) := Lib.hid (by rw [HST.out, chk_sign hb])
                    have hbi : (0 : Int) < (bindS t.kind : Nat) := by omega
                    clear HST k7
                    generalize bindS t.kind = bk at *
                    go_wp2_with (go_at_call 116; refine (HNB.out _).mono ?_; rintro e w' ⟨rfl, rfl⟩)
                    go_roundw
                    case rel => exact ⟨(j + 1) + 1, false, op, rfl, rfl, by go_num, by omega, hop, Lib.hid (HKN.out _), Lib.hid (by rw [HPA.out]; exact HN.out)⟩
                    case measure => simp [intOf]; omega
            · have gp : (u.kind == 5) = false := by simp [hp5]
              have HP1 : Hid (prevAs L (j + 1) = false) := Lib.hid (by rw [HPJ.out, huk, decide_eq_false hp5])
              rw [HP1.out] at HST
              clear hp5 HPJ
              cases b
              · by_cases k1 : t.kind = 1
                · have HN : Hid (chkS false false 0 0 L = chkS true (decide (t.tok.kind = 5)) op ((j + 1) + 1) (L.drop ((j + 1) + 1))) := Lib.hid (by rw [HST.out, chk_atom k1 (.inl rfl), htk, k1]; rfl)
                  clear HST HNB
                  rw [k1] at c0
                  clear k1
                  go_wp2
                  go_roundw
                  case rel => exact ⟨(j + 1) + 1, true, op, rfl, rfl, by go_num, by omega, hop, Lib.hid (HKN.out _), Lib.hid (by rw [HPA.out]; exact HN.out)⟩
                  case measure => simp [intOf]; omega
                · have g1 : (t.kind == 1) = false := by simp [k1]
                  by_cases k6 : t.kind = 6
                  · have g6 : (t.kind == 6) = true := by simp [k6]
                    by_cases h100 : op = 100
                    · subst h100
                      have HA : Hid (checkR L = ((j + 1), 3)) := Lib.hid (by rw [HCR.out, HST.out, chk_many k6])
                      clear HST HNB k1 k6
                      go_wp2
                      go_ret2
                      exact ⟨by rw [HA.out]; rfl, HKN.out _⟩
                    · have HN : Hid (chkS false false 0 0 L = chkS false (decide (t.tok.kind = 5)) (op + 1) ((j + 1) + 1) (L.drop ((j + 1) + 1))) := Lib.hid (by rw [HST.out, chk_open1 k6 h100, htk, k6]; rfl)
                      have g100 : ((op : Int) == 100) = false := by rw [beq_eq_false_iff_ne]; omega
                      clear HST HNB k1 k6
                      go_wp2
                      go_roundw
                      case rel => exact ⟨(j + 1) + 1, false, op + 1, rfl, by go_num, by go_num, by omega, by omega, Lib.hid (HKN.out _), Lib.hid (by rw [HPA.out]; exact HN.out)⟩
                      case measure => simp [intOf]; omega
                  · have g6 : (t.kind == 6) = false := by simp [k6]
                    have HA : Hid (checkR L = ((j + 1), 2)) := Lib.hid (by rw [HCR.out, HST.out, chk_no (fun h => k1 h.1) (fun h => k6 h.1)])
                    clear HST HNB k1 k6
                    go_wp2
                    go_ret2
                    exact ⟨by rw [HA.out]; rfl, HKN.out _⟩
              · by_cases k7 : t.kind = 7
                · have g7 : (t.kind == 7) = true := by simp [k7]
                  by_cases h0 : 0 < op
                  · have HN : Hid (chkS false false 0 0 L = chkS true (decide (t.tok.kind = 5)) (op - 1) ((j + 1) + 1) (L.drop ((j + 1) + 1))) := Lib.hid (by rw [HST.out, chk_close1 k7 h0, htk, k7]; rfl)
                    have h0i : (0 : Int) < (op : Int) := by omega
                    clear HST HNB k7
                    go_wp2
                    go_roundw
                    case rel => exact ⟨(j + 1) + 1, true, op - 1, rfl, by go_num, by go_num, by omega, by omega, Lib.hid (HKN.out _), Lib.hid (by rw [HPA.out]; exact HN.out)⟩
                    case measure => simp [intOf]; omega
                  · have HA : Hid (checkR L = ((j + 1), 2)) := Lib.hid (by rw [HCR.out, HST.out, chk_not (fun h => h0 h.2) (by rw [htk, k7]; rfl)])
                    have h0i : ¬ (0 : Int) < (op : Int) := by omega
                    have hb : bindS t.kind = 0 := by rw [k7]; rfl
                    rw [hb] at HNB
                    clear HST k7 hb
                    go_wp2_with (go_at_call 116; refine (HNB.out _).mono ?_; rintro e w' ⟨rfl, rfl⟩)
                    go_ret2
                    exact ⟨by rw [HA.out]; rfl, HKN.out _⟩
                · have g7 : (t.kind == 7) = false := by simp [k7]
                  by_cases hb : bindS t.kind = 0
                  · have HA : Hid (checkR L = ((j + 1), 2)) := Lib.hid (by rw [HCR.out, HST.out, chk_not (fun h => k7 h.1) hb])
                    rw [hb] at HNB
                    clear HST k7 hb
                    go_wp2_with (go_at_call 116; refine (HNB.out _).mono ?_; rintro e w' ⟨rfl, rfl⟩)
                    go_ret2
                    exact ⟨by rw [HA.out]; rfl, HKN.out _⟩
                  · have HN : Hid (chkS false false 0 0 L = chkS false (decide (t.tok.kind = 5)) op ((j + 1) + 1) (L.drop ((j + 1) + 1))) := Lib.hid (by rw [HST.out, chk_sign hb])
                    have hbi : (0 : Int) < (bindS t.kind : Nat) := by omega
                    clear HST k7
                    generalize bindS t.kind = bk at *
                    go_wp2_with (go_at_call 116; refine (HNB.out _).mono ?_; rintro e w' ⟨rfl, rfl⟩)
                    go_roundw
                    case rel => exact ⟨(j + 1) + 1, false, op, rfl, rfl, by go_num, by omega, hop, Lib.hid (HKN.out _), Lib.hid (by rw [HPA.out]; exact HN.out)⟩
                    case measure => simp [intOf]; omega
        · have hlti : ¬ (k : Int) < n := by omega
          have HE : Hid (chkS false false 0 0 L = if b = true ∧ op = 0 then none else some (k, 2)) := Lib.hid (by rw [hto.out, List.drop_eq_nil_of_le (by rw [HM.out]; omega), chkS])
          have hkn : Hid (k = n) := Lib.hid (by omega)
          cases b
          · have HA : Hid (checkR L = (n, 2)) := Lib.hid (by rw [HCR.out, HE.out, if_neg (by simp), hkn.out])
            clear HE hto hkn
            go_wp2
            go_ret2
            exact ⟨by rw [HA.out]; rfl, hkr.out⟩
          · by_cases h0 : op = 0
            · have HA : Hid (checkR L = (0, 0)) := Lib.hid (by rw [HCR.out, HE.out, if_pos ⟨rfl, h0⟩])
              have h0i : ¬ (0 : Int) < (op : Int) := by omega
              clear HE hto hkn
              go_wp2
              go_ret2
              exact ⟨by rw [HA.out]; rfl, hkr.out⟩
            · have HA : Hid (checkR L = (n, 2)) := Lib.hid (by rw [HCR.out, HE.out, if_neg (by simp [h0]), hkn.out])
              have h0i : (0 : Int) < (op : Int) := by omega
              clear HE hto hkn
              go_wp2
              go_ret2
              exact ⟨by rw [HA.out]; rfl, hkr.out⟩

open Go.RowKit Go.ChangeShapes Go.WideShapes
def atI : Option Nat → Int
  | none => -1
  | some a => a
/-- terms being gathered in a row of their own -/
def XPart (w wr : World) (x : List Tok) (v : Value) : Prop := wr.ownsRow w.heap.size 52 3 v x.length (cellsX (toX x)) ∧ Kept w wr
theorem XPart.kept {w wr w1 : World} {x : List Tok} {v : Value} (h : XPart w wr x v) (hk : Kept wr w1) : XPart w w1 x v := ⟨own_kept h.1 hk, h.2.trans hk⟩
theorem XPart.app {w wr w1 : World} {x y : List Tok} {v v1 : Value} (h : XPart w wr x v)
    (hp : AppPost wr w.heap.size 52 3 v (x.length + y.length) (cellsX (toX x) ++ cellsX (toX y)) v1 w1) : XPart w w1 (x ++ y) v1 := by
  have hv : ∀ g, v.ownBlock = some g → w.heap.size ≤ g := by
    intro g hg
    rcases h.1.2 with ⟨rfl, _⟩ | ⟨g', cap, cur, rfl, hb, _⟩
    · simp [Value.ownBlock] at hg
    · simp [Value.ownBlock] at hg; omega
  refine ⟨?_, (hp.kept h.2 hv).1⟩
  rw [toX_append, cellsX_append, List.length_append]
  exact hp.1
theorem xpart_new (w : World) : XPart w (w.alloc (Obj.cells #[] 52)) [] (.slice (some ⟨w.heap.size, 0, none⟩) 0 0) := ⟨own_new (heap_alloc_new w _) (Nat.le_refl _), Fr.of_alloc _ _ _⟩
/-- a row of terms of its own -/
def TermsPost (x : List Tok) (w : World) (e : Ending) (w' : World) : Prop := ∃ v, e = .returned v ∧ XPart w w' x v
theorem XPart.reads {x : List Tok} {w w' : World} {v : Value} (h : XPart w w' x v) : ReadsX w' v (toX x) := own_readsX (by rw [toX_len]; exact h.1)
theorem op_cells (k : Int) : cellsX (toX [opT k]) = [.int .i64 k, .int .i64 0, .string ⟨#[]⟩] := by
  show [Value.int .i64 k, .int .i64 0, .string (strOf [])] = _
  rfl
set_option maxRecDepth 20000 in
set_option maxHeartbeats 8000000 in
theorem rterms_any : ∀ (m : Nat) (p : PT) (w : World) (v : Value) (l : List TokB), l.length ≤ m → p.Ok → ReadsT w v l → l.map TokB.tok = p.toks → l.length ≤ 1000000 →
    Calls Tryz.prog 109 #[v] w (TermsPost p.ex.post w) := by
  intro m
  induction m with
  | zero =>
    intro p w v l hm hok h htk
    have h1 := congrArg List.length htk
    have h2 := p.toks_pos
    rw [List.length_map] at h1
    omega
  | succ m ih =>
    intro p w v l hm hok h htk hl
    by_cases h1 : l.length = 1
    · obtain ⟨ao, c, rfl, hcc, hc⟩ := h
      match l, htk, h1 with
      | [u], htk, _ =>
        obtain ⟨g, off, rfl, c0, c1, c2, c3⟩ := hc 0 u rfl
        simp only [Nat.zero_mul, Nat.add_zero] at c0 c1 c2 c3
        have hua : p = .atom u.tok := by
          cases p with
          | atom t => simp [PT.toks] at htk; rw [htk]
          | par q => have := congrArg List.length htk; simp [PT.toks] at this
          | bin o a b => have := congrArg List.length htk; have h1 := a.toks_pos; have h2 := b.toks_pos; simp [PT.toks] at this; omega
        subst hua
        have hv : cellsX (toX (PT.atom u.tok).ex.post) = [.int .i64 1, .int .i64 u.of, .string u.name] := by
          have h1 : u.tok.kind = 1 := hok.1
          show [Value.int .i64 u.tok.kind, .int .i64 u.tok.of, .string (strOf u.tok.name)] = _
          rw [h1]
          show [Value.int .i64 1, .int .i64 u.of, .string (strOf (bs u.name))] = _
          rw [strOf_bs]
        have HV := Lib.hid hv
        clear hc hv htk hok
        go_enter Tryz.func109, Tryz.ntmps109
        go_wp2
        go_region
        all_goals
          go_wp2
          go_ret
          refine ⟨_, rfl, ?_, (Fr.of_alloc _ _ _).trans (Fr.of_drew _ _)⟩
          rw [HV.out]
          exact ⟨rfl, .inr ⟨w.heap.size, 1, _, rfl, Nat.le_refl _, heap_alloc_new w _, Nat.le_refl _, by decide, rfl, rfl⟩⟩
    · have hpos : 2 ≤ l.length := by
        have h3 := congrArg List.length htk
        have h2 := p.toks_pos
        rw [List.length_map] at h3
        omega
      have HIH : Hid (∀ (q : PT) (W : World) (v : Value) (r : List TokB), r.length ≤ m → q.Ok → ReadsT W v r → r.map TokB.tok = q.toks → r.length ≤ 1000000 → Calls Tryz.prog 109 #[v] W (TermsPost q.ex.post W)) := Lib.hid ih
      clear ih
      have hs : True := trivial
      obtain ⟨ao, c, rfl, hcc, hc⟩ := h
      have HRD : Hid (ReadsT w (.slice ao l.length c) l) := Lib.hid ⟨ao, c, rfl, hcc, hc⟩
      have HC := Lib.hid hc
      have HS := Lib.hid hs
      have HM : Hid ((l.map TokB.tok).length = l.length) := Lib.hid (by simp)
      have HG : Hid (∀ (k : Nat) (t : TokB), l[k]? = some t → (l.map TokB.tok)[k]? = some t.tok) := Lib.hid (fun k t ht => by rw [List.getElem?_map, ht]; rfl)
      have HTK := Lib.hid htk
      have HNE : Hid (Nest 0 ((l.map TokB.tok).drop 0)) := Lib.hid (by have := nest_pt _ 0 [] hok trivial; rw [List.append_nil, ← htk] at this; exact this)
      have HSC : Hid (scanS 0 0 none 9 (l.map TokB.tok) = updA (p) 0 none 9) := Lib.hid (by rw [htk]; exact scan_whole hok)
      clear hc hs htk
      generalize hL : l.map TokB.tok = L at *
      have HLL := Lib.hid hL
      clear hL
      generalize hn : l.length = n at *
      have HN := Lib.hid hn
      clear hn
      have g1 : ((n : Int) == 1) = false := by rw [beq_eq_false_iff_ne]; omega
      obtain ⟨t0, ht0⟩ : ∃ t, l[0]? = some t := ⟨_, List.getElem?_eq_getElem (by have := HN.out; omega)⟩
      obtain ⟨g, off, rfl, _⟩ := HC.out 0 t0 ht0
      clear ht0
      go_enter Tryz.func109, Tryz.ntmps109
      go_wp2
      go_loop [3, 4, 5, 6] (fun av lv ov iv => ∃ (k : Nat) (at_ : Option Nat) (low op : Nat), av = .int .i64 (atI at_) ∧ lv = .int .i64 low ∧ ov = .int .i64 op ∧ iv = .int .i64 k ∧ k ≤ n ∧ op ≤ k ∧ low ≤ 9 ∧ Hid (scanS 0 0 none 9 L = scanS k op at_ low (L.drop k)) ∧ Hid (Nest op (L.drop k)) ∧ Hid (∀ a, at_ = some a → a < n)) (fun _ _ _ iv => n - (intOf iv).toNat)
      case atStart => exact ⟨0, none, 9, 0, rfl, rfl, rfl, rfl, by omega, by omega, by omega, Lib.hid rfl, HNE, Lib.hid (fun a h => by cases h)⟩
      case round =>
        obtain ⟨k, at_, low, op, rfl, rfl, rfl, rfl, hk, hopk, hlow, hto, hne, hat⟩ := hrel
        by_cases hlt : k < n
        · have hlti : (k : Int) < n := by omega
          obtain ⟨t, ht⟩ : ∃ t, l[k]? = some t := ⟨_, List.getElem?_eq_getElem (by have := HN.out; omega)⟩
          obtain ⟨g1, off1, he1, c0, _⟩ := HC.out k t ht
          cases he1
          have HD := Lib.hid (drop_get (HG.out k t ht))
          have hkk : t.tok.kind = t.kind := rfl
          have HST : Hid (scanS 0 0 none 9 L = scanS k op at_ low (t.tok :: L.drop (k + 1))) := Lib.hid (by rw [hto.out, HD.out])
          have HNT : Hid ((t.tok.kind = 7 → 0 < op) ∧ Nest (if t.tok.kind = 6 then op + 1 else if t.tok.kind = 7 then op - 1 else op) (L.drop (k + 1))) := Lib.hid (by have := hne.out; rw [HD.out] at this; exact this)
          have HNB : Hid (∀ W, Calls Tryz.prog 116 #[.int .i64 t.kind] W fun e w' => e = .returned (.int .i64 (bindS t.kind : Nat)) ∧ W = w') := Lib.hid (fun W => rbinds_any t.kind W)
          clear hto hne ht HD
          by_cases k6 : t.kind = 6
          · have g6 : (t.kind == 6) = true := by simp [k6]
            have g7 : (t.kind == 7) = false := by simp [k6]
            have hb : bindS t.kind = 0 := by rw [k6]; rfl
            have HN2 : Hid (scanS 0 0 none 9 L = scanS (k + 1) (op + 1) at_ low (L.drop (k + 1))) := Lib.hid (by rw [HST.out, scanS]; simp only [hkk, k6, if_true]; rw [if_neg (by omega)])
            have HN3 : Hid (Nest (op + 1) (L.drop (k + 1))) := Lib.hid (by have := HNT.out.2; rwa [hkk, if_pos k6] at this)
            rw [hb] at HNB
            have gop : (((op : Int) + 1) == 0) = false := by rw [beq_eq_false_iff_ne]; omega
            clear HST HNT k6 hb
            go_wp2_with (go_at_call 116; refine (HNB.out _).mono ?_; rintro e w' ⟨rfl, rfl⟩)
            go_round
            case rel => exact ⟨k + 1, at_, low, op + 1, rfl, rfl, by go_num, by go_num, by omega, by omega, hlow, HN2, HN3, hat⟩
            case measure => simp [intOf]; omega
          · have g6 : (t.kind == 6) = false := by simp [k6]
            by_cases k7 : t.kind = 7
            · have g7 : (t.kind == 7) = true := by simp [k7]
              have hb : bindS t.kind = 0 := by rw [k7]; rfl
              have h0 : 0 < op := HNT.out.1 k7
              have HN2 : Hid (scanS 0 0 none 9 L = scanS (k + 1) (op - 1) at_ low (L.drop (k + 1))) := Lib.hid (by rw [HST.out, scanS]; simp only [hkk, k7, if_true]; rw [if_neg (by have : bindS 7 = 0 := rfl; omega)]; rfl)
              have HN3 : Hid (Nest (op - 1) (L.drop (k + 1))) := Lib.hid (by have := HNT.out.2; rwa [hkk, if_neg k6, if_pos k7] at this)
              rw [hb] at HNB
              obtain ⟨o1, rfl⟩ : ∃ o1, op = o1 + 1 := ⟨op - 1, by omega⟩
              clear HST HNT k6 k7 hb h0
              by_cases ho1 : o1 = 0
              · subst ho1
                go_wp2_with (go_at_call 116; refine (HNB.out _).mono ?_; rintro e w' ⟨rfl, rfl⟩)
                go_round
                case rel => exact ⟨k + 1, at_, low, 0, rfl, rfl, by go_num, by go_num, by omega, by omega, hlow, HN2, HN3, hat⟩
                case measure => simp [intOf]; omega
              · have go1 : ((o1 : Int) == 0) = false := by rw [beq_eq_false_iff_ne]; omega
                go_wp2_with (go_at_call 116; refine (HNB.out _).mono ?_; rintro e w' ⟨rfl, rfl⟩)
                go_round
                case rel => exact ⟨k + 1, at_, low, o1, rfl, rfl, by go_num, by go_num, by omega, by omega, hlow, HN2, HN3, hat⟩
                case measure => simp [intOf]; omega
            · have g7 : (t.kind == 7) = false := by simp [k7]
              have HN3 : Hid (Nest op (L.drop (k + 1))) := Lib.hid (by have := HNT.out.2; rwa [hkk, if_neg k6, if_neg k7] at this)
              have HN2 : Hid (scanS 0 0 none 9 L = if op = 0 ∧ bindS t.kind ≠ 0 ∧ bindS t.kind ≤ low then scanS (k + 1) op (some k) (bindS t.kind) (L.drop (k + 1)) else scanS (k + 1) op at_ low (L.drop (k + 1))) := Lib.hid (by rw [HST.out, scanS]; simp only [hkk, if_neg k6, if_neg k7])
              have hb4 := bind_le t.kind
              clear HST HNT k6 k7
              generalize bindS t.kind = bk at *
              by_cases hcond : op = 0 ∧ bk ≠ 0 ∧ bk ≤ low
              · have HN4 := Lib.hid (HN2.out.trans (if_pos hcond))
                obtain ⟨rfl, hb0, hbl⟩ := hcond
                have hb0i : (0 : Int) < (bk : Int) := by omega
                have hbli : (bk : Int) ≤ (low : Int) := by omega
                clear HN2
                go_wp2_with (go_at_call 116; refine (HNB.out _).mono ?_; rintro e w' ⟨rfl, rfl⟩)
                go_round
                case rel => exact ⟨k + 1, some k, bk, 0, rfl, rfl, rfl, by go_num, by omega, by omega, by omega, HN4, HN3, Lib.hid (fun a h => by cases h; exact hlt)⟩
                case measure => simp [intOf]; omega
              · have HN4 := Lib.hid (HN2.out.trans (if_neg hcond))
                clear HN2
                by_cases ho : op = 0
                · subst ho
                  by_cases hb0 : bk = 0
                  · subst hb0
                    go_wp2_with (go_at_call 116; refine (HNB.out _).mono ?_; rintro e w' ⟨rfl, rfl⟩)
                    go_round
                    case rel => exact ⟨k + 1, at_, low, 0, rfl, rfl, rfl, by go_num, by omega, by omega, hlow, HN4, HN3, hat⟩
                    case measure => simp [intOf]; omega
                  · have hb0i : (0 : Int) < (bk : Int) := by omega
                    have hbli : ¬ (bk : Int) ≤ (low : Int) := by omega
                    go_wp2_with (go_at_call 116; refine (HNB.out _).mono ?_; rintro e w' ⟨rfl, rfl⟩)
                    go_round
                    case rel => exact ⟨k + 1, at_, low, 0, rfl, rfl, rfl, by go_num, by omega, by omega, hlow, HN4, HN3, hat⟩
                    case measure => simp [intOf]; omega
                · have goi : ((op : Int) == 0) = false := by rw [beq_eq_false_iff_ne]; omega
                  go_wp2_with (go_at_call 116; refine (HNB.out _).mono ?_; rintro e w' ⟨rfl, rfl⟩)
                  go_round
                  case rel => exact ⟨k + 1, at_, low, op, rfl, rfl, rfl, by go_num, by omega, by omega, hlow, HN4, HN3, hat⟩
                  case measure => simp [intOf]; omega
        · have hlti : ¬ (k : Int) < n := by omega
          have HE : Hid (scanS 0 0 none 9 L = at_) := Lib.hid (by rw [hto.out, List.drop_eq_nil_of_le (by rw [HM.out]; omega), scanS])
          have HEQ : Hid (at_ = updA p 0 none 9) := Lib.hid (by rw [← HE.out, HSC.out])
          have HLN : Hid (p.toks.length = n) := Lib.hid (by rw [← HTK.out, HM.out])
          clear hto hne HE
          cases p with
          | atom t => exact absurd HLN.out (by simp [PT.toks]; omega)
          | par p =>
            have hat0 : at_ = none := HEQ.out
            subst hat0
            have HR1 : Hid (ReadsT w (.slice (some ⟨g, off + 4, none⟩) (n - 1 - 1) (c - 1)) ((l.drop 1).take (n - 1 - 1))) := Lib.hid (by
              have h1 := HRD.out.from 1 (by rw [HN.out]; omega)
              have h2 := h1.upto (n - 1 - 1) (by rw [List.length_drop, HN.out]; omega)
              simpa using h2)
            have HT1 : Hid (((l.drop 1).take (n - 1 - 1)).map TokB.tok = p.toks) := Lib.hid (by
              rw [List.map_take, List.map_drop, HLL.out, HTK.out]
              have h3 := HLN.out
              simp only [PT.toks, List.length_cons, List.length_append, List.length_nil] at h3
              simp only [PT.toks, List.drop_one, List.tail_cons]
              rw [List.take_append_of_le_length (by omega), List.take_of_length_le (by omega)])
            have HCL : Hid (Calls Tryz.prog 109 #[.slice (some ⟨g, off + 4, none⟩) (n - 1 - 1) (c - 1)] w (TermsPost p.ex.post w)) := Lib.hid
              (HIH.out p w _ ((l.drop 1).take (n - 1 - 1)) (by rw [List.length_take, List.length_drop, HN.out]; omega) hok HR1.out HT1.out (by rw [List.length_take, List.length_drop, HN.out]; omega))
            have i1 : (1 : Int) ≤ (n : Int) - 1 := by omega
            have i2 : (n : Int) - 1 ≤ (c : Int) := by omega
            have i3 : ((n : Int) - 1).toNat = n - 1 := by omega
            clear hat HR1 HT1 HIH HRD HSC HEQ HC HG HTK HNE HLL HM HN HLN hok
            go_wp2_with fail
            refine HCL.out.mono ?_
            rintro e w1 ⟨v1, rfl, hx⟩
            have HX := Lib.hid hx
            clear hx HCL
            go_wp2
            go_ret
            exact ⟨_, rfl, HX.out⟩
          | bin op2 a b =>
            have hat0 : at_ = some a.toks.length := by
              rw [HEQ.out]
              simp only [updA]
              rw [if_pos (by have := bind_le op2; omega), Nat.zero_add]
            subst hat0
            have hln : a.toks.length + 1 + b.toks.length = n := by have := HLN.out; simp only [PT.toks, List.length_append, List.length_cons] at this; omega
            have hbp := b.toks_pos
            have hap := a.toks_pos
            have HA1 : Hid (∀ W, Kept w W → Calls Tryz.prog 109 #[.slice (some ⟨g, off, none⟩) a.toks.length c] W (TermsPost a.ex.post W)) := Lib.hid (fun W hW =>
              HIH.out a W _ (l.take a.toks.length) (by rw [List.length_take, HN.out]; omega) hok.2.2.2.1 ((HRD.out.upto a.toks.length (by rw [HN.out]; omega)).kept hW)
                (by rw [List.map_take, HLL.out, HTK.out]; simp [PT.toks]) (by rw [List.length_take, HN.out]; omega))
            have HB1 : Hid (∀ W, Kept w W → Calls Tryz.prog 109 #[.slice (some ⟨g, off + (a.toks.length + 1) * 4, none⟩) (n - (a.toks.length + 1)) (c - (a.toks.length + 1))] W (TermsPost b.ex.post W)) := Lib.hid (fun W hW =>
              HIH.out b W _ (l.drop (a.toks.length + 1)) (by rw [List.length_drop, HN.out]; omega) hok.2.2.2.2.1 ((HRD.out.from (a.toks.length + 1) (by rw [HN.out]; omega)).kept hW)
                (by rw [List.map_drop, HLL.out, HTK.out]; simp only [PT.toks]; rw [List.drop_append, List.drop_eq_nil_of_le (by omega)]; simp) (by rw [List.length_drop, HN.out]; omega))
            obtain ⟨t, ht⟩ : ∃ t, l[a.toks.length]? = some t := ⟨_, List.getElem?_eq_getElem (by have := HN.out; omega)⟩
            obtain ⟨g', off', he, c0, _⟩ := HC.out _ t ht
            cases he
            have hop2 : t.kind = op2 := by
              have h5 := HG.out _ t ht
              rw [HTK.out] at h5
              simp [PT.toks] at h5
              exact (congrArg Tok.kind h5).symm
            rw [hop2] at c0
            have HC0 := Lib.hid c0
            have HPA : Hid (a.ex.post.length ≤ n) := Lib.hid (by have := PT.len a; omega)
            have HPB : Hid (b.ex.post.length ≤ n) := Lib.hid (by have := PT.len b; omega)
            have HPP : Hid (([] ++ a.ex.post) ++ b.ex.post ++ [opT op2] = (PT.bin op2 a b).ex.post) := Lib.hid (by simp [PT.ex, Ex.post])
            clear ht hop2 c0 hat HIH HRD HSC HEQ HC HG HTK HNE HLL HM HN HLN hok
            generalize (PT.bin op2 a b).ex.post = RES at *
            generalize a.ex.post = pa at *
            generalize b.ex.post = pb at *
            generalize a.toks.length = ka at *
            generalize b.toks.length = kb at *
            clear a b
            have i0 : ¬ (ka : Int) < 0 := by omega
            have i1 : (0 : Int) ≤ (ka : Int) := by omega
            have i2 : (ka : Int) ≤ (c : Int) := by omega
            have i3 : ((ka : Int) + 1).toNat = ka + 1 := by omega
            have i4 : (0 : Int) ≤ (ka : Int) + 1 := by omega
            have i5 : (ka : Int) + 1 ≤ (n : Int) := by omega
            have i6 : (ka : Int) < (n : Int) := by omega
            have H0 := Lib.hid (xpart_new w)
            have hatk : atI (some ka) = (ka : Int) := rfl
            rw [hatk]
            go_wp2_with fail
            refine (HA1.out _ (Fr.of_alloc _ _ _)).mono ?_
            rintro e w1 ⟨v1, rfl, hx⟩
            have H1 := Lib.hid (H0.out.kept hx.2)
            have HS1 := Lib.hid (readsX_src (P := Tryz.prog) hx.reads Tryz.underlying25)
            clear hx H0 HA1
            go_wp2_with (at_builtin; go_must (refine list_app rfl (.tmp 71) (.tmp 75) 25 25 rfl Tryz.sliceX rfl (by exact H1.out.1) rfl (by exact HS1.out) (by rw [toX_len]; have := HPA.out; unfold maxLen; simp; omega) (by rw [toX_len]; have := HPA.out; simp; omega) (by exact H1.out.2.size) ?_; intro v2 w2 hq; rw [toX_len] at hq; have H2 := Lib.hid (H1.out.app hq); clear hq H1 HS1))
            refine (HB1.out _ H2.out.2).mono ?_
            rintro e w3 ⟨v3, rfl, hx⟩
            have H3 := Lib.hid (H2.out.kept hx.2)
            have HS3 := Lib.hid (readsX_src (P := Tryz.prog) hx.reads Tryz.underlying25)
            clear hx H2 HB1
            go_wp2_with (first
              | (at_builtin; refine list_app rfl (.tmp 77) (.tmp 82) 25 25 rfl Tryz.sliceX rfl (by exact H3.out.1) rfl (by exact HS3.out) (by rw [toX_len]; have := HPA.out; have := HPB.out; unfold maxLen; simp; omega) (by rw [toX_len]; have := HPA.out; have := HPB.out; simp; omega) (by exact H3.out.2.size) ?_; intro v4 w4 hq; rw [toX_len] at hq; have H4 := Lib.hid (H3.out.app hq); clear hq H3 HS3; have c0 := H4.out.2.cell HC0.out (fun x => x); have H5 := Lib.hid (H4.out.kept (Fr.of_alloc _ w4 (Obj.cells #[.int .i64 op2, .int .i64 0, .string ⟨#[]⟩] 52))))
              | (at_builtin; refine list_app rfl (.tmp 84) (.tmp 91) 25 25 rfl Tryz.sliceX rfl (by exact H5.out.1) rfl (by exact src_three Tryz.underlying25 (heap_alloc_new _ _) rfl rfl rfl) (by have := HPA.out; have := HPB.out; unfold maxLen; simp; omega) (by have := HPA.out; have := HPB.out; simp; omega) (by exact H5.out.2.size) ?_; intro v6 w6 hq; have H6 := Lib.hid (H5.out.app (y := [opT op2]) hq); clear hq))
            go_ret
            refine ⟨_, rfl, ?_⟩
            rw [← HPP.out]
            exact H6.out

open Go.RowKit Go.ChangeShapes Go.WideShapes
def partV (n : Nat) (e : Ex) : Value := .agg #[.int .i64 (n : Int), .string (strOf (textE e)), .int .i64 (e.lvl : Int), .int .i64 (e.deep : Int)]
def noneV : Value := .agg #[.int .i64 0, .string ⟨#[]⟩, .int .i64 0, .int .i64 0]
def LastPost (x : List Tok) (w : World) (e : Ending) (w' : World) : Prop :=
  Kept w w' ∧ ((∃ p t, EndIs x p t ∧ e = .returned (.tuple #[partV p.length t, .bool true])) ∨ ((∀ p t, ¬ EndIs x p t) ∧ e = .returned (.tuple #[noneV, .bool false])))
theorem last_ret {W : World} {g : Nat} {a b c d v : Value} {tmps : Array Value} (h : Four W g a b c d) (h2 : tmps.getD 2 undef = .pointer (some ⟨g, 0, none⟩)) (h3 : tmps.getD 3 undef = v) :
    (results Tryz.f82 tmps).run Tryz.prog W = .ok (.tuple #[.agg #[a, b, c, d], v]) W := by
  have c0 := h.c0
  have c1 := h.c1
  have c2 := h.c2
  have c3 := h.c3
  rw [results_cell_tmp rfl, h2, h3]
  go_simp
structure LS (w W : World) (g0 g1 : Nat) : Prop where
  kept : Kept w W
  n0 : w.heap.size ≤ g0
  ne : g0 ≠ g1
  r : Four W g0 (.int .i64 0) (.string ⟨#[]⟩) (.int .i64 0) (.int .i64 0)
  z : Four W g1 (.int .i64 0) (.string ⟨#[]⟩) (.int .i64 0) (.int .i64 0)
theorem LS.later {w W W1 : World} {g0 g1 : Nat} (h : LS w W g0 g1) (hk : Kept W W1) : LS w W1 g0 g1 := ⟨h.kept.trans hk, h.n0, h.ne, h.r.kept hk, h.z.kept hk⟩
theorem ls_new (w : World) (t : TypeId) : LS w ((w.alloc (Obj.cells #[.int .i64 0, .string ⟨#[]⟩, .int .i64 0, .int .i64 0] t)).alloc (Obj.cells #[.int .i64 0, .string ⟨#[]⟩, .int .i64 0, .int .i64 0] t)) w.heap.size (w.heap.size + 1) := by
  refine ⟨(Fr.of_alloc _ _ _).trans (Fr.of_alloc _ _ _), Nat.le_refl _, by omega, (four_new w _ _ _ _ _).kept (Fr.of_alloc _ _ _), ?_⟩
  have := four_new (w.alloc (Obj.cells #[.int .i64 0, .string ⟨#[]⟩, .int .i64 0, .int .i64 0] t)) (.int .i64 0) (.string ⟨#[]⟩) (.int .i64 0) (.int .i64 0) t
  rwa [World.size_alloc] at this
theorem text_bound (e : Ex) : (textE e).length ≤ 41 * (3 * e.post.length) := by
  unfold textE
  have h1 := join_le (canS 1 e).toks
  have h2 := PT.len (canS 1 e)
  have h3 := can_cnt e 1
  rw [can_ex] at h2
  have : (canS 1 e).toks.length ≤ 3 * e.post.length := by omega
  calc _ ≤ (canS 1 e).toks.length * 41 := h1
    _ ≤ 3 * e.post.length * 41 := Nat.mul_le_mul_right _ this
    _ = _ := Nat.mul_comm _ _
theorem part_bound (v : Nat) (e : Ex) : (partE v e).length ≤ 41 * (3 * e.post.length) + 4 := by
  unfold partE
  have := text_bound e
  split
  · simp; omega
  · omega
theorem noneV_agg : noneV = .agg #[.int .i64 0, .string ⟨#[]⟩, .int .i64 0, .int .i64 0] := rfl

end Go.Proofs.YtbfealhbdemhmaaGreatDoor
