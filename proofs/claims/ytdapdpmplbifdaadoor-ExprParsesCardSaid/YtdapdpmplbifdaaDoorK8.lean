/- Contracts and lemmas: K8 -/
import Derived.Test.YtdapdpmplbifdaaDoorK7
namespace Go.Proofs.YtdapdpmplbifdaaDoor
set_option linter.unusedVariables false
set_option linter.unusedSimpArgs false
open Go.RowKit Go.ChangeShapes Go.WideShapes
set_option maxRecDepth 20000
/-- the facts of a term's word, as the code asks for them -/
theorem word_yes {t : Tok} (h : wordS t = []) : (strOf (wordS t)).toList = [] ∧ (strOf (wordS t)).toList.isEmpty = true ∧ ((strOf (wordS t)).toList == []) = true := by
  have q1 : (strOf (wordS t)).toList = [] := by rw [bs_toList, bs_strOf]; exact h
  exact ⟨q1, by rw [q1]; rfl, by rw [q1]; rfl⟩
theorem word_not {t : Tok} (h : wordS t ≠ []) : ¬ (strOf (wordS t)).toList = [] ∧ (strOf (wordS t)).toList.isEmpty = false ∧ ((strOf (wordS t)).toList == []) = false := by
  have q1 : ¬ (strOf (wordS t)).toList = [] := by rw [bs_toList, bs_strOf]; exact h
  exact ⟨q1, by simpa using q1, by simpa using q1⟩
set_option maxHeartbeats 8000000 in
theorem kmayx_any {w : World} {v : Value} {l : List TrmB} (h : ReadsX w v l) (hl : l.length ≤ 1000000) (hs : ∀ t ∈ l, t.name.size ≤ 1000000) (hL : LaidT w) :
    Calls Tryd.prog 19 #[v] w (MayXPost (l.map TrmB.tok) w) := by
  obtain ⟨ao, c, rfl, _, hc⟩ := h
  have HC := Lib.hid hc
  have HS := Lib.hid hs
  have HL := Lib.hid hL
  have HM : Hid ((l.map TrmB.tok).length = l.length) := Lib.hid (by simp)
  have HG : Hid (∀ (k : Nat) (t : TrmB), l[k]? = some t → (l.map TrmB.tok)[k]? = some t.tok) := Lib.hid (fun k t ht => by rw [List.getElem?_map, ht]; rfl)
  clear hc hs hL
  generalize l.map TrmB.tok = L at *
  generalize hn : l.length = n at *
  have HN := Lib.hid hn
  clear hn
  by_cases h200 : 200 < n
  · have h2i : (200 : Int) < (n : Int) := by omega
    have HX : Hid (∀ e, ¬ MayIs L e) := Lib.hid (fun e h => by have := h.2.2; rw [HM.out] at this; omega)
    clear h200
    go_enter Tryd.func19, Tryd.ntmps19
    go_wp2
    go_ret
    exact ⟨Fr.refl _ _, .inr ⟨HX.out, rfl⟩⟩
  · have h2i : ¬ (200 : Int) < (n : Int) := by omega
    have H0 : Hid (Kept w w) := Lib.hid (Fr.refl _ _)
    have H1 := Lib.hid (stk_zero L)
    have HL200 : Hid (L.length ≤ 200) := Lib.hid (by rw [HM.out]; omega)
    clear h200
    go_enter Tryd.func19, Tryd.ntmps19
    go_wp2
    go_loopw [3, 11] (fun nv iv wr => ∃ (k m : Nat) (es : List Ex), nv = .int .i64 m ∧ iv = .int .i64 k ∧ k ≤ n ∧ m ≤ k ∧ Hid (Kept w wr) ∧ Hid (Stk L k es ∧ es.length = m)) (fun _ iv _ => n - (intOf iv).toNat)
    case atStart => exact ⟨0, 0, [], rfl, rfl, by omega, by omega, H0, Lib.hid ⟨H1.out, rfl⟩⟩
    case round =>
      obtain ⟨k, m, es, rfl, rfl, hk, hmk, hkr, hto⟩ := hrel
      clear H0 H1
      by_cases hlt : k < n
      · have hlti : (k : Int) < n := by omega
        obtain ⟨t, ht⟩ : ∃ t, l[k]? = some t := ⟨_, List.getElem?_eq_getElem (by have := HN.out; omega)⟩
        obtain ⟨g, off, rfl, d0, d1, d2⟩ := HC.out k t ht
        have hsz := HS.out t (List.mem_of_getElem? ht)
        have c0 := hkr.out.cell d0 (fun x => x)
        have c1 := hkr.out.cell d1 (fun x => x)
        have c2 := hkr.out.cell d2 (fun x => x)
        have HT := Lib.hid (HG.out k t ht)
        have HKA : Hid (Kept w (wr.alloc (.cells #[.int .i64 t.op, .int .i64 t.of, .string t.name] 45)) ∧ Thr3 (wr.alloc (.cells #[.int .i64 t.op, .int .i64 t.of, .string t.name] 45)) wr.heap.size (.int .i64 t.op) (.int .i64 t.of) (.string t.name)) := Lib.hid ⟨hkr.out.trans (Fr.of_alloc _ _ _), thr3_new _ _ _ _ _⟩
        have HB : Hid (∀ W, Calls Tryd.prog 32 #[.int .i64 t.op] W fun e w' => e = .returned (.int .i64 (kbind t.op : Nat)) ∧ W = w') := Lib.hid (fun W => kbinding_any t.op W)
        have HTO : Hid (∀ W, Calls Tryd.prog 33 #[.agg #[.int .i64 t.op, .int .i64 t.of, .string t.name]] W (KeptPost (.agg #[.int .i64 t.op, .string t.name, .int .i64 t.of, .int .i64 0]) W)) := Lib.hid (fun W => ktokof_any t.op t.of t.name W)
        have HW : Hid (∀ W, LaidT W → Calls Tryd.prog 37 #[.agg #[.int .i64 t.op, .string t.name, .int .i64 t.of, .int .i64 0]] W (KeptPost (.string (strOf (wordS t.tok))) W)) := Lib.hid (fun W hW => kword_any t.op t.name t.of 0 W hsz hW)
        clear ht d0 d1 d2
        by_cases hb : kbind t.op = 0
        · have HX : Hid (∀ e, ¬ MayIs L e) := Lib.hid (fun e => stk_bad HT.out (.inr hb) e)
          rw [hb] at HB
          clear hb
          go_wp2_with (go_at_call 32; refine (HB.out _).mono ?_; rintro e w' ⟨rfl, rfl⟩)
          go_ret
          exact ⟨HKA.out.1, .inr ⟨HX.out, rfl⟩⟩
        · have gb : (((kbind t.op : Nat) : Int) == 0) = false := by rw [beq_eq_false_iff_ne]; omega
          have HBN := Lib.hid hb
          clear hb
          generalize hbk : kbind t.op = bk at HB gb
          have HBK := Lib.hid hbk
          clear hbk
          go_wp2_with (go_at_call 32; refine (HB.out _).mono ?_; rintro e w' ⟨rfl, rfl⟩)
          refine (HTO.out _).mono ?_
          rintro e w2 ⟨rfl, hk2⟩
          have H2 : Hid (Kept w w2 ∧ Thr3 w2 wr.heap.size (.int .i64 t.op) (.int .i64 t.of) (.string t.name)) := Lib.hid ⟨HKA.out.1.trans hk2, HKA.out.2.kept hk2⟩
          clear hk2 HKA HTO
          generalize wr.heap.size = ga at H2 ⊢
          go_wp2_with fail
          refine (HW.out _ (HL.out.kept H2.out.1)).mono ?_
          rintro e w3 ⟨rfl, hk3⟩
          have H3 : Hid (Kept w w3 ∧ Thr3 w3 ga (.int .i64 t.op) (.int .i64 t.of) (.string t.name)) := Lib.hid ⟨H2.out.1.trans hk3, H2.out.2.kept hk3⟩
          clear hk3 H2 HW
          by_cases hw : wordS t.tok = []
          · have HX : Hid (∀ e, ¬ MayIs L e) := Lib.hid (fun e => stk_bad HT.out (.inl hw) e)
            obtain ⟨q1, q2, q3⟩ := word_yes hw
            clear hw
            go_wp2
            go_ret
            exact ⟨H3.out.1, .inr ⟨HX.out, rfl⟩⟩
          · obtain ⟨q1, q2, q3⟩ := word_not hw
            have HWN := Lib.hid hw
            have e0 := H3.out.2.c0
            clear hw
            by_cases k1 : t.op = 1
            · have g1 : (t.op == 1) = true := by simp [k1]
              have HN2 := Lib.hid (hto.out.1.atom HT.out k1 HWN.out)
              clear k1
              go_wp2
              go_roundw
              case rel => exact ⟨k + 1, m + 1, _, by go_num, by go_num, by omega, by omega, Lib.hid H3.out.1, Lib.hid ⟨HN2.out, by simp [hto.out.2]⟩⟩
              case measure => simp [intOf]; omega
            · have g1 : (t.op == 1) = false := by simp [k1]
              have HK1 := Lib.hid k1
              clear k1
              by_cases hm2 : m < 2
              · have hm2i : (m : Int) < 2 := by omega
                have HX : Hid (∀ e, ¬ MayIs L e) := Lib.hid (fun e => stk_few hto.out.1 HT.out HK1.out (by rw [hto.out.2]; exact hm2) e)
                go_wp2
                go_ret
                exact ⟨H3.out.1, .inr ⟨HX.out, rfl⟩⟩
              · have hm2i : ¬ (m : Int) < 2 := by omega
                have HBS : Hid (bindS t.op ≠ 0) := Lib.hid (by have := HBN.out; rwa [kbind_other HK1.out] at this)
                by_cases k5 : t.op = 5
                · have g5 : (t.op == 5) = true := by simp [k5]
                  obtain ⟨j, rfl⟩ : ∃ j, k = j + 1 := ⟨k - 1, by omega⟩
                  obtain ⟨u, hu⟩ : ∃ u, l[j]? = some u := ⟨_, List.getElem?_eq_getElem (by have := HN.out; omega)⟩
                  obtain ⟨g', off', he, _, d1, _⟩ := HC.out j u hu
                  cases he
                  have p1 := H3.out.1.cell d1 (fun x => x)
                  have HU := Lib.hid (HG.out j u hu)
                  have pz : (0 : Int) < ((j + 1 : Nat) : Int) := by omega
                  have pj : ((j + 1 : Nat) : Int) - 1 = (j : Int) := by omega
                  clear d1 hu
                  by_cases ho : u.of = 5
                  · have go5 : (u.of != 5) = false := by simp [ho]
                    have HN2 := Lib.hid (hto.out.1.op HT.out HBS.out HWN.out (by rw [hto.out.2]; omega) (fun _ => ⟨j, _, rfl, HU.out, ho⟩))
                    clear ho k5
                    go_wp2
                    go_roundw
                    case rel =>
                      obtain ⟨es', a, b, he, hst⟩ := HN2.out
                      exact ⟨j + 1 + 1, m - 1, _, by go_num, by go_num, by omega, by omega, Lib.hid H3.out.1, Lib.hid ⟨hst, by have := hto.out.2; rw [he] at this; simp at this ⊢; omega⟩⟩
                    case measure => simp [intOf]; omega
                  · have go5 : (u.of != 5) = true := by simp [ho]
                    have HX : Hid (∀ e, ¬ MayIs L e) := Lib.hid (fun e => stk_role hto.out.1 HT.out HU.out k5 ho e)
                    clear ho k5
                    go_wp2
                    go_ret
                    exact ⟨H3.out.1, .inr ⟨HX.out, rfl⟩⟩
                · have g5 : (t.op == 5) = false := by simp [k5]
                  have HN2 := Lib.hid (hto.out.1.op HT.out HBS.out HWN.out (by rw [hto.out.2]; omega) (fun h => absurd h k5))
                  clear k5
                  go_wp2
                  go_roundw
                  case rel =>
                    obtain ⟨es', a, b, he, hst⟩ := HN2.out
                    exact ⟨k + 1, m - 1, _, by go_num, by go_num, by omega, by omega, Lib.hid H3.out.1, Lib.hid ⟨hst, by have := hto.out.2; rw [he] at this; simp at this ⊢; omega⟩⟩
                  case measure => simp [intOf]; omega
      · have hlti : ¬ (k : Int) < n := by omega
        by_cases h1 : m = 1
        · have g1 : ((m : Int) == 1) = true := by rw [beq_iff_eq]; omega
          have HY : Hid (∃ e, MayIs L e) := Lib.hid (by
            have h2 := hto.out
            match es, h2 with
            | [e], h2 => exact ⟨e, h2.1.done (by rw [HM.out]; omega) HL200.out⟩
            | [], h2 => have := h2.2; simp at this; omega
            | a :: b :: r, h2 => have := h2.2; simp at this; omega)
          go_wp2
          go_ret
          exact ⟨hkr.out, .inl (by obtain ⟨e, he⟩ := HY.out; exact ⟨e, he, rfl⟩)⟩
        · have g1 : ((m : Int) == 1) = false := by rw [beq_eq_false_iff_ne]; omega
          have HX : Hid (∀ e, ¬ MayIs L e) := Lib.hid (fun e => hto.out.1.not (by rw [HM.out]; omega) (by rw [hto.out.2]; exact h1) e)
          go_wp2
          go_ret
          exact ⟨hkr.out, .inr ⟨HX.out, rfl⟩⟩

end Go.Proofs.YtdapdpmplbifdaaDoor
