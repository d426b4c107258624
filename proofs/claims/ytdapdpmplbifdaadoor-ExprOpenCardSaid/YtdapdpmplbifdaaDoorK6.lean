/- Contracts and lemmas: K6 -/
import Derived.Test.YtdapdpmplbifdaaDoorK5
namespace Go.Proofs.YtdapdpmplbifdaaDoor
set_option linter.unusedVariables false
set_option linter.unusedSimpArgs false
open Go.RowKit Go.ChangeShapes Go.WideShapes
set_option maxRecDepth 20000
theorem faultR_is (l : List Tok) : (∃ p q, faultR l = (p, q) ∧ (q = 2 ∨ q = 3) ∧ ReadIs l [] p q) ∨ (faultR l = (0, 0) ∧ ∃ t : PT, t.Ok ∧ t.toks = l ∧ ReadIs l t.ex.post 0 0) := by
  cases h1 : badS 0 l with
  | some i => exact .inl ⟨i, 2, by unfold faultR; rw [h1], .inl rfl, .inl ⟨h1, rfl, rfl⟩⟩
  | none =>
    cases h2 : chkS false false 0 0 l with
    | some x =>
      obtain ⟨p, q⟩ := x
      exact .inl ⟨p, q, by unfold faultR; rw [h1, h2], (chk_err h2).1, .inr (.inl ⟨h1, h2, rfl⟩)⟩
    | none =>
      obtain ⟨t, ht, hl⟩ := chk_ok (bad_none.1 h1) h2
      have hn : (l.filter notPar).length = t.ex.post.length := by rw [← hl, PT.inf ht, Ex.inf_len]
      by_cases h200 : 200 < t.ex.post.length
      · exact .inl ⟨l.length, 3, by unfold faultR; rw [h1, h2]; simp only []; rw [if_pos (by rw [hn]; exact h200)], .inr rfl, .inr (.inr ⟨h1, h2, t, ht, hl, .inr ⟨h200, rfl, rfl, rfl⟩⟩)⟩
      · exact .inr ⟨by unfold faultR; rw [h1, h2]; simp only []; rw [if_neg (by rw [hn]; exact h200)], t, ht, hl, .inr (.inr ⟨h1, h2, t, ht, hl, .inl ⟨by omega, rfl, rfl, rfl⟩⟩)⟩
set_option maxHeartbeats 4000000 in
theorem kread_any {w : World} {v : Value} {l : List TokB} (h : ReadsT w v l) (hl : l.length ≤ 1000000) (hs : ∀ t ∈ l, t.name.size ≤ 1000000) (hL : LaidT w) : Calls Tryd.prog 14 #[v] w (ReadR (l.map TokB.tok) w) := by
  have HR := Lib.hid h
  have HS := Lib.hid hs
  have HL := Lib.hid hL
  obtain ⟨ao, c, rfl, hc⟩ := h.form
  clear h hs hL
  rcases faultR_is (l.map TokB.tok) with ⟨p, q, h1, hq, h2⟩ | ⟨h1, t, h4, h5, h6⟩
  · have HA := Lib.hid h2
    have gq : (q != 0) = true := by rw [bne_iff_ne]; rcases hq with rfl | rfl <;> decide
    clear h2 hq
    go_enter Tryd.func14, Tryd.ntmps14
    go_wp2_with fail
    refine (kfault_any HR.out hl HS.out HL.out).mono ?_
    rintro e w1 ⟨rfl, hk1⟩
    rw [h1]
    have HK := Lib.hid hk1
    clear hk1 HR HS h1
    unfold checkV
    go_wp2
    go_ret3
    exact ⟨_, _, p, q, rfl, HA.out, readsX_nil _, HK.out⟩
  · have HB := Lib.hid h6
    have HT := Lib.hid h5
    have HO := Lib.hid h4
    clear h6 h4 h5
    go_enter Tryd.func14, Tryd.ntmps14
    go_wp2_with fail
    refine (kfault_any HR.out hl HS.out HL.out).mono ?_
    rintro e w1 ⟨rfl, hk1⟩
    rw [h1]
    have HK := Lib.hid hk1
    have HR1 := Lib.hid (HR.out.kept hk1)
    clear hk1 HR h1
    unfold checkV
    go_wp2_with fail
    refine (kpostfix_any HR1.out hl HO.out HT.out).mono ?_
    rintro e w2 ⟨v2, rfl, hx⟩
    have HX := Lib.hid (hx.base HK.out)
    clear hx HK HR1
    go_wp2
    go_ret3
    exact ⟨_, _, 0, 0, rfl, HB.out, HX.out.reads, HX.out.2⟩
set_option maxHeartbeats 4000000 in
theorem kparse_any (s : ByteArray) (w : World) (hs : s.size ≤ 1000000) (hL : LaidT w) : Calls Tryd.prog 11 #[.string s] w (ParseR (bs s) w) := by
  have HL := Lib.hid hL
  clear hL
  go_enter Tryd.func11, Tryd.ntmps11
  go_wp2_with fail
  refine (kallR s w hs HL.out).mono ?_
  rintro e w1 ⟨v1, m, p, q, rfl, hr, hk1, hi⟩
  have HK := Lib.hid hk1
  have HR := Lib.hid hr
  obtain ⟨ao, c, rfl, hc⟩ := hr.form
  have hlb : (toB m).length = m.length := by simp [toB]
  rw [hlb] at hc HR ⊢
  clear hr hk1
  rcases hi with ⟨h1, rfl, rfl⟩ | ⟨h1, rfl⟩
  · have HA := Lib.hid h1
    have HN := Lib.hid (all_names h1)
    clear h1
    go_wp2_with fail
    refine (kread_any HR.out (by rw [hlb]; have := HN.out.1; omega) HN.out.2 (HL.out.kept HK.out)).mono ?_
    rintro e w2 ⟨v2, x, p, q, rfl, hri, hx, hk2⟩
    rw [toB_tok] at hri
    have HI := Lib.hid hri
    have HX := Lib.hid (And.intro hx (HK.out.trans hk2))
    have HR2 := Lib.hid (HR.out.kept hk2)
    clear hri hx hk2 HR HN
    by_cases hq : q = 0
    · subst hq
      have HP : Hid (ParseIs (bs s) x 0 0) := Lib.hid (.inr ⟨m, p, HA.out, HI.out, by unfold placeS; rw [if_pos rfl]⟩)
      go_wp2
      go_ret3
      exact ⟨_, _, 0, 0, rfl, HP.out, HX.out.1, HX.out.2⟩
    · have gq : (q == 0) = false := by rw [beq_eq_false_iff_ne]; exact hq
      have HOX := Lib.hid (HI.out.other hq)
      have HPL : Hid (∀ n, n = placeS m (bs s).length p q → ParseIs (bs s) [] n q) := Lib.hid (fun n hn => .inr ⟨m, p, HA.out, by rw [← HOX.out.1]; exact HI.out, hn⟩)
      by_cases hp : p < m.length
      · have hpi : (p : Int) < (m.length : Int) := by omega
        obtain ⟨y, hy⟩ : ∃ y, m[p]? = some y := ⟨_, List.getElem?_eq_getElem hp⟩
        have HPP := Lib.hid (HPL.out y.2 (by unfold placeS; rw [if_neg hq, hy]))
        obtain ⟨ao', c', he, _, hcc⟩ := HR2.out
        rw [hlb] at he
        cases he
        obtain ⟨g, off, rfl, c0, c1, c2, c3⟩ := hcc p ⟨y.1.kind, strOf y.1.name, y.1.of, y.2⟩ (by unfold toB; rw [List.getElem?_map, hy]; rfl)
        clear hcc hq hy HPL c0 c1 c2
        go_wp2
        go_region
        all_goals
          go_wp2
          go_ret3
          exact ⟨_, _, y.2, q, rfl, HPP.out, readsX_nil _, HX.out.2.trans (Fr.of_drew _ _)⟩
      · have hpi : ¬ (p : Int) < (m.length : Int) := by omega
        have hy : m[p]? = none := List.getElem?_eq_none (by omega)
        by_cases h3 : q = 3
        · subst h3
          have HPP := Lib.hid (HPL.out 0 (by unfold placeS; rw [if_neg hq, hy]; rfl))
          clear hq hy HPL
          go_wp2
          go_ret3
          exact ⟨_, _, 0, 3, rfl, HPP.out, readsX_nil _, HX.out.2⟩
        · have g3 : (q == 3) = false := by rw [beq_eq_false_iff_ne]; exact h3
          have HPP := Lib.hid (HPL.out s.size (by unfold placeS; rw [if_neg hq, hy]; simp only []; rw [if_neg h3, bs_len]))
          clear hq hy HPL h3
          go_wp2
          go_ret3
          exact ⟨_, _, s.size, q, rfl, HPP.out, readsX_nil _, HX.out.2⟩
  · have HP : Hid (ParseIs (bs s) [] p q) := Lib.hid (.inl ⟨h1, rfl⟩)
    have gq : (q != 0) = true := by rw [bne_iff_ne]; rcases all_err2 h1 with rfl | rfl <;> decide
    clear h1
    go_wp2
    go_ret3
    exact ⟨_, _, p, q, rfl, HP.out, readsX_nil _, HK.out⟩

end Go.Proofs.YtdapdpmplbifdaaDoor
