/- Contracts and lemmas: Rd -/
import Derived.Test.YtdapdpmplbifdaaDoorTrm
namespace Go.Proofs.YtdapdpmplbifdaaDoor
set_option linter.unusedVariables false
set_option linter.unusedSimpArgs false
open Go.RowKit Go.ChangeShapes Go.WideShapes
theorem xpart_nil {w w' : World} (h : Kept w w') : XPart w w' [] (.slice none 0 0) := ⟨own_nil _ _ _ _, h⟩
theorem XPart.base {w0 w w' : World} {x : List Tok} {v : Value} (h : XPart w w' x v) (hk : Kept w0 w) : XPart w0 w' x v := by
  refine ⟨own_base h.1 (fun g hg => ?_), hk.trans h.2⟩
  rcases h.1.2 with ⟨rfl, _⟩ | ⟨g', cap, cur, rfl, hb, _⟩
  · simp [Value.ownBlock] at hg
  · have := hk.size
    simp [Value.ownBlock] at hg; omega
theorem XPart.form {w w' : World} {x : List Tok} {v : Value} (h : XPart w w' x v) : ∃ ao c, v = .slice ao x.length c ∧ x.length ≤ c := own_slice h.1
/-- what Read answers -/
def ReadPost (l : List Tok) (w : World) (e : Ending) (w' : World) : Prop :=
  ∃ v x, ∃ (p : Nat) (q : Int), e = .returned (.tuple #[v, .int .i64 p, .int .i64 q]) ∧ ReadIs l x p q ∧ XPart w w' x v
theorem checkR_is (l : List Tok) : (∃ p q, checkR l = (p, q) ∧ (q = 2 ∨ q = 3) ∧ ReadIs l [] p q) ∨ (checkR l = (0, 0) ∧ badS 0 l = none ∧ chkS false false 0 0 l = none ∧ ∃ t : PT, t.Ok ∧ t.toks = l) := by
  cases h1 : badS 0 l with
  | some i =>
    left
    exact ⟨i, 2, by unfold checkR; rw [h1], .inl rfl, .inl ⟨h1, rfl, rfl⟩⟩
  | none =>
    cases h2 : chkS false false 0 0 l with
    | some x =>
      obtain ⟨p, q⟩ := x
      left
      exact ⟨p, q, by unfold checkR; rw [h1, h2], (chk_err h2).1, .inr (.inl ⟨h1, h2, rfl⟩)⟩
    | none =>
      right
      exact ⟨by unfold checkR; rw [h1, h2], rfl, rfl, chk_ok (bad_none.1 h1) h2⟩
set_option maxRecDepth 20000 in
set_option maxHeartbeats 4000000 in
theorem rread_any {w : World} {v : Value} {l : List TokB} (h : ReadsT w v l) (hl : l.length ≤ 1000000) (hs : ∀ t ∈ l, t.name.size ≤ 1000000) :
    Calls Tryd.prog 15 #[v] w (ReadPost (l.map TokB.tok) w) := by
  have HR := Lib.hid h
  have HS := Lib.hid hs
  obtain ⟨ao, c, rfl, hc⟩ := h.form
  clear h hs
  rcases checkR_is (l.map TokB.tok) with ⟨p, q, h1, hq, h2⟩ | ⟨h1, h2, h3, t, h4, h5⟩
  · have HA := Lib.hid h2
    have gq : (q == 0) = false := by rw [beq_eq_false_iff_ne]; rcases hq with rfl | rfl <;> decide
    clear h2 hq
    go_enter Tryd.func15, Tryd.ntmps15
    go_wp2_with fail
    refine (rcheck_any HR.out hl HS.out).mono ?_
    rintro e w1 ⟨rfl, hk1⟩
    rw [h1]
    have HK := Lib.hid hk1
    clear hk1 HR HS h1
    unfold checkV
    go_wp2
    go_ret3
    exact ⟨_, _, p, q, rfl, HA.out, xpart_nil HK.out⟩
  · have HB := Lib.hid (And.intro h2 h3)
    have HT := Lib.hid h5
    have HO := Lib.hid h4
    clear h2 h3 h4 h5
    go_enter Tryd.func15, Tryd.ntmps15
    go_wp2_with fail
    refine (rcheck_any HR.out hl HS.out).mono ?_
    rintro e w1 ⟨rfl, hk1⟩
    rw [h1]
    have HK := Lib.hid hk1
    have HR1 := Lib.hid (HR.out.kept hk1)
    clear hk1 HR h1
    unfold checkV
    go_wp2_with fail
    refine (rterms_any l.length t w1 _ l (Nat.le_refl _) HO.out HR1.out HT.out.symm hl).mono ?_
    rintro e w2 ⟨v2, rfl, hx⟩
    obtain ⟨ao2, c2, rfl, hc2⟩ := hx.form
    have HX := Lib.hid (hx.base HK.out)
    have HLT : Hid ((l.map TokB.tok).length = l.length) := Lib.hid (by simp)
    clear hx HK HR1
    by_cases h200 : 200 < t.ex.post.length
    · have h2i : (200 : Int) < (t.ex.post.length : Int) := by omega
      have HA : Hid (ReadIs (l.map TokB.tok) [] l.length 3) := Lib.hid (.inr (.inr ⟨HB.out.1, HB.out.2, t, HO.out, HT.out, .inr ⟨h200, rfl, HLT.out.symm, rfl⟩⟩))
      clear h200
      go_wp2
      go_ret3
      exact ⟨_, _, l.length, 3, rfl, HA.out, xpart_nil HX.out.2⟩
    · have h2i : ¬ (200 : Int) < (t.ex.post.length : Int) := by omega
      have HA : Hid (ReadIs (l.map TokB.tok) t.ex.post 0 0) := Lib.hid (.inr (.inr ⟨HB.out.1, HB.out.2, t, HO.out, HT.out, .inl ⟨by omega, rfl, rfl, rfl⟩⟩))
      clear h200
      go_wp2
      go_ret3
      exact ⟨_, _, 0, 0, rfl, HA.out, HX.out⟩
/-- what Parse answers -/
def ParsePost (s : List UInt8) (w : World) (e : Ending) (w' : World) : Prop :=
  ∃ v x, ∃ (n : Nat) (q : Int), e = .returned (.tuple #[v, .int .i64 n, .int .i64 q]) ∧ ParseIs s x n q ∧ XPart w w' x v
theorem all_names {l : List UInt8} {m : List (Tok × Nat)} (h : allS l = .ok m) : m.length ≤ 1000 ∧ ∀ t ∈ toB m, t.name.size ≤ 1000000 := by
  obtain ⟨⟨nt, hr⟩, h1, h2⟩ := all_run h
  refine ⟨h1, fun t ht => ?_⟩
  unfold toB at ht
  obtain ⟨y, hy, rfl⟩ := List.mem_map.1 ht
  have h3 := (run_sum m false nt 0 l hr).2.2 y.1 (List.mem_map.2 ⟨y, hy, rfl⟩)
  have h4 := word_name h3
  have h5 := word_len y.1
  show (strOf y.1.name).size ≤ 1000000
  rw [strOf_size]
  omega
set_option maxRecDepth 20000 in
set_option maxHeartbeats 4000000 in
theorem rparse_any (s : ByteArray) (w : World) (hs : s.size ≤ 1000000) : Calls Tryd.prog 12 #[.string s] w (ParsePost (bs s) w) := by
  go_enter Tryd.func12, Tryd.ntmps12
  go_wp2_with fail
  refine (rallR s w hs).mono ?_
  rintro e w1 ⟨v1, m, p, q, rfl, hr, hk1, hi⟩
  have HK := Lib.hid hk1
  have HR := Lib.hid hr
  obtain ⟨ao, c, rfl, hc⟩ := hr.form
  have hlb : (toB m).length = m.length := by simp [toB]
  rw [hlb] at hc HR ⊢
  clear hr hk1
  rcases hi with ⟨h1, rfl, rfl⟩ | ⟨h1, rfl⟩
  · have HA := Lib.hid h1
    have HN := Lib.hid (all_names h1)
    clear h1
    go_wp2_with fail
    refine (rread_any HR.out (by rw [hlb]; have := HN.out.1; omega) HN.out.2).mono ?_
    rintro e w2 ⟨v2, x, p, q, rfl, hri, hx⟩
    rw [toB_tok] at hri
    have HI := Lib.hid hri
    have HX := Lib.hid (hx.base HK.out)
    have HR2 := Lib.hid (HR.out.kept hx.2)
    clear hri hx HR HN
    by_cases hq : q = 0
    · subst hq
      have HP : Hid (ParseIs (bs s) x 0 0) := Lib.hid (.inr ⟨m, p, HA.out, HI.out, by unfold placeS; rw [if_pos rfl]⟩)
      go_wp2
      go_ret3
      exact ⟨_, _, 0, 0, rfl, HP.out, HX.out⟩
    · have gq : (q == 0) = false := by rw [beq_eq_false_iff_ne]; exact hq
      have HOX := Lib.hid (HI.out.other hq)
      have HPL : Hid (∀ n, n = placeS m (bs s).length p q → ParseIs (bs s) [] n q) := Lib.hid (fun n hn => .inr ⟨m, p, HA.out, by rw [← HOX.out.1]; exact HI.out, hn⟩)
      by_cases hp : p < m.length
      · have hpi : (p : Int) < (m.length : Int) := by omega
        obtain ⟨y, hy⟩ : ∃ y, m[p]? = some y := ⟨_, List.getElem?_eq_getElem hp⟩
        have HPP := Lib.hid (HPL.out y.2 (by unfold placeS; rw [if_neg hq, hy]))
        obtain ⟨ao', c', he, _, hcc⟩ := HR2.out
        rw [hlb] at he
        cases he
        obtain ⟨g, off, rfl, c0, c1, c2, c3⟩ := hcc p ⟨y.1.kind, strOf y.1.name, y.1.of, y.2⟩ (by unfold toB; rw [List.getElem?_map, hy]; rfl)
        clear hcc hq hy HPL c0 c1 c2
        go_wp2
        go_region
        all_goals
          go_wp2
          go_ret3
          exact ⟨_, _, y.2, q, rfl, HPP.out, xpart_nil (HX.out.2.trans (Fr.of_drew _ _))⟩
      · have hpi : ¬ (p : Int) < (m.length : Int) := by omega
        have hy : m[p]? = none := List.getElem?_eq_none (by omega)
        by_cases h3 : q = 3
        · subst h3
          have HPP := Lib.hid (HPL.out 0 (by unfold placeS; rw [if_neg hq, hy]; rfl))
          clear hq hy HPL
          go_wp2
          go_ret3
          exact ⟨_, _, 0, 3, rfl, HPP.out, xpart_nil HX.out.2⟩
        · have g3 : (q == 3) = false := by rw [beq_eq_false_iff_ne]; exact h3
          have HPP := Lib.hid (HPL.out s.size (by unfold placeS; rw [if_neg hq, hy]; simp only []; rw [if_neg h3, bs_len]))
          clear hq hy HPL h3
          go_wp2
          go_ret3
          exact ⟨_, _, s.size, q, rfl, HPP.out, xpart_nil HX.out.2⟩
  · have HP : Hid (ParseIs (bs s) [] p q) := Lib.hid (.inl ⟨h1, rfl⟩)
    have gq : (q == 0) = false := by rw [beq_eq_false_iff_ne]; rcases all_err2 h1 with rfl | rfl <;> decide
    clear h1
    go_wp2
    go_ret3
    exact ⟨_, _, p, q, rfl, HP.out, xpart_nil HK.out⟩

end Go.Proofs.YtdapdpmplbifdaaDoor
