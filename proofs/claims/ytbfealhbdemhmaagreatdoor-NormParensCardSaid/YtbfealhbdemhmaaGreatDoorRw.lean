/- Contracts and lemmas: Rw -/
import Derived.Test.YtbfealhbdemhmaaGreatDoorLb
import Derived.Test.YtbfealhbdemhmaaGreatDoorTk
namespace Go.Proofs.YtbfealhbdemhmaaGreatDoor
set_option linter.unusedVariables false
set_option linter.unusedSimpArgs false
open Go.RowKit Go.ChangeShapes Go.WideShapes
theorem xpart_nil {w w' : World} (h : Kept w w') : XPart w w' [] (.slice none 0 0) := ⟨own_nil _ _ _ _, h⟩
theorem XPart.base {w0 w w' : World} {x : List Tok} {v : Value} (h : XPart w w' x v) (hk : Kept w0 w) : XPart w0 w' x v := by
  refine ⟨own_base h.1 (fun g hg => ?_), hk.trans h.2⟩
  rcases h.1.2 with ⟨rfl, _⟩ | ⟨g', cap, cur, rfl, hb, _⟩
  · simp [Value.ownBlock] at hg
  · have := hk.size
    simp [Value.ownBlock] at hg; omega
theorem XPart.form {w w' : World} {x : List Tok} {v : Value} (h : XPart w w' x v) : ∃ ao c, v = .slice ao x.length c ∧ x.length ≤ c := own_slice h.1
/-- what Read answers -/
def ReadPost (l : List Tok) (w : World) (e : Ending) (w' : World) : Prop :=
  ∃ v x, ∃ (p : Nat) (q : Int), e = .returned (.tuple #[v, .int .i64 p, .int .i64 q]) ∧ ReadIs l x p q ∧ XPart w w' x v
theorem checkR_is (l : List Tok) : (∃ p q, checkR l = (p, q) ∧ (q = 2 ∨ q = 3) ∧ ReadIs l [] p q) ∨ (checkR l = (0, 0) ∧ badS 0 l = none ∧ chkS false false 0 0 l = none ∧ ∃ t : PT, t.Ok ∧ t.toks = l) := by
  cases h1 : badS 0 l with
  | some i =>
    left
    exact ⟨i, 2, by unfold checkR; rw [h1], .inl rfl, .inl ⟨h1, rfl, rfl⟩⟩
  | none =>
    cases h2 : chkS false false 0 0 l with
    | some x =>
      obtain ⟨p, q⟩ := x
      left
      exact ⟨p, q, by unfold checkR; rw [h1, h2], (chk_err h2).1, .inr (.inl ⟨h1, h2, rfl⟩)⟩
    | none =>
      right
      exact ⟨by unfold checkR; rw [h1, h2], rfl, rfl, chk_ok (bad_none.1 h1) h2⟩
set_option maxRecDepth 20000 in
set_option maxHeartbeats 4000000 in
theorem rread_any {w : World} {v : Value} {l : List TokB} (h : ReadsT w v l) (hl : l.length ≤ 1000000) (hs : ∀ t ∈ l, t.name.size ≤ 1000000) :
    Calls Tryz.prog 64 #[v] w (ReadPost (l.map TokB.tok) w) := by
  have HR := Lib.hid h
  have HS := Lib.hid hs
  obtain ⟨ao, c, rfl, hc⟩ := h.form
  clear h hs
  rcases checkR_is (l.map TokB.tok) with ⟨p, q, h1, hq, h2⟩ | ⟨h1, h2, h3, t, h4, h5⟩
  · have HA := Lib.hid h2
    have gq : (q == 0) = false := by rw [beq_eq_false_iff_ne]; rcases hq with rfl | rfl <;> decide
    clear h2 hq
    go_enter Tryz.func64, Tryz.ntmps64
    go_wp2_with fail
    refine (rcheck_any HR.out hl HS.out).mono ?_
    rintro e w1 ⟨rfl, hk1⟩
    rw [h1]
    have HK := Lib.hid hk1
    clear hk1 HR HS h1
    unfold checkV
    go_wp2
    go_ret3
    exact ⟨_, _, p, q, rfl, HA.out, xpart_nil HK.out⟩
  · have HB := Lib.hid (And.intro h2 h3)
    have HT := Lib.hid h5
    have HO := Lib.hid h4
    clear h2 h3 h4 h5
    go_enter Tryz.func64, Tryz.ntmps64
    go_wp2_with fail
    refine (rcheck_any HR.out hl HS.out).mono ?_
    rintro e w1 ⟨rfl, hk1⟩
    rw [h1]
    have HK := Lib.hid hk1
    have HR1 := Lib.hid (HR.out.kept hk1)
    clear hk1 HR h1
    unfold checkV
    go_wp2_with fail
    refine (rterms_any l.length t w1 _ l (Nat.le_refl _) HO.out HR1.out HT.out.symm hl).mono ?_
    rintro e w2 ⟨v2, rfl, hx⟩
    obtain ⟨ao2, c2, rfl, hc2⟩ := hx.form
    have HX := Lib.hid (hx.base HK.out)
    have HLT : Hid ((l.map TokB.tok).length = l.length) := Lib.hid (by simp)
    clear hx HK HR1
    by_cases h200 : 200 < t.ex.post.length
    · have h2i : (200 : Int) < (t.ex.post.length : Int) := by omega
      have HA : Hid (ReadIs (l.map TokB.tok) [] l.length 3) := Lib.hid (.inr (.inr ⟨HB.out.1, HB.out.2, t, HO.out, HT.out, .inr ⟨h200, rfl, HLT.out.symm, rfl⟩⟩))
      clear h200
      go_wp2
      go_ret3
      exact ⟨_, _, l.length, 3, rfl, HA.out, xpart_nil HX.out.2⟩
    · have h2i : ¬ (200 : Int) < (t.ex.post.length : Int) := by omega
      have HA : Hid (ReadIs (l.map TokB.tok) t.ex.post 0 0) := Lib.hid (.inr (.inr ⟨HB.out.1, HB.out.2, t, HO.out, HT.out, .inl ⟨by omega, rfl, rfl, rfl⟩⟩))
      clear h200
      go_wp2
      go_ret3
      exact ⟨_, _, 0, 0, rfl, HA.out, HX.out⟩
/-- what Parse answers -/
def ParsePost (s : List UInt8) (w : World) (e : Ending) (w' : World) : Prop :=
  ∃ v x, ∃ (n : Nat) (q : Int), e = .returned (.tuple #[v, .int .i64 n, .int .i64 q]) ∧ ParseIs s x n q ∧ XPart w w' x v
theorem all_names {l : List UInt8} {m : List (Tok × Nat)} (h : allS l = .ok m) : m.length ≤ 1000 ∧ ∀ t ∈ toB m, t.name.size ≤ 1000000 := by
  obtain ⟨⟨nt, hr⟩, h1, h2⟩ := all_run h
  refine ⟨h1, fun t ht => ?_⟩
  unfold toB at ht
  obtain ⟨y, hy, rfl⟩ := List.mem_map.1 ht
  have h3 := (run_sum m false nt 0 l hr).2.2 y.1 (List.mem_map.2 ⟨y, hy, rfl⟩)
  have h4 := word_name h3
  have h5 := word_len y.1
  show (strOf y.1.name).size ≤ 1000000
  rw [strOf_size]
  omega
set_option maxRecDepth 20000 in
set_option maxHeartbeats 4000000 in
theorem rparse_any (s : ByteArray) (w : World) (hs : s.size ≤ 1000000) : Calls Tryz.prog 34 #[.string s] w (ParsePost (bs s) w) := by
  go_enter Tryz.func34, Tryz.ntmps34
  go_wp2_with fail
  refine (rallR s w hs).mono ?_
  rintro e w1 ⟨v1, m, p, q, rfl, hr, hk1, hi⟩
  have HK := Lib.hid hk1
  have HR := Lib.hid hr
  obtain ⟨ao, c, rfl, hc⟩ := hr.form
  have hlb : (toB m).length = m.length := by simp [toB]
  rw [hlb] at hc HR ⊢
  clear hr hk1
  rcases hi with ⟨h1, rfl, rfl⟩ | ⟨h1, rfl⟩
  · have HA := Lib.hid h1
    have HN := Lib.hid (all_names h1)
    clear h1
    go_wp2_with fail
    refine (rread_any HR.out (by rw [hlb]; have := HN.out.1; omega) HN.out.2).mono ?_
    rintro e w2 ⟨v2, x, p, q, rfl, hri, hx⟩
    rw [toB_tok] at hri
    have HI := Lib.hid hri
    have HX := Lib.hid (hx.base HK.out)
    have HR2 := Lib.hid (HR.out.kept hx.2)
    clear hri hx HR HN
    by_cases hq : q = 0
    · subst hq
      have HP : Hid (ParseIs (bs s) x 0 0) := Lib.hid (.inr ⟨m, p, HA.out, HI.out, by unfold placeS; rw [if_pos rfl]⟩)
      go_wp2
      go_ret3
      exact ⟨_, _, 0, 0, rfl, HP.out, HX.out⟩
    · have gq : (q == 0) = false := by rw [beq_eq_false_iff_ne]; exact hq
      have HOX := Lib.hid (HI.out.other hq)
      have HPL : Hid (∀ n, n = placeS m (bs s).length p q → ParseIs (bs s) [] n q) := Lib.hid (fun n hn => .inr ⟨m, p, HA.out, by rw [← HOX.out.1]; exact HI.out, hn⟩)
      by_cases hp : p < m.length
      · have hpi : (p : Int) < (m.length : Int) := by omega
        obtain ⟨y, hy⟩ : ∃ y, m[p]? = some y := ⟨_, List.getElem?_eq_getElem hp⟩
        have HPP := Lib.hid (HPL.out y.2 (by unfold placeS; rw [if_neg hq, hy]))
        obtain ⟨ao', c', he, _, hcc⟩ := HR2.out
        rw [hlb] at he
        cases he
        obtain ⟨g, off, rfl, c0, c1, c2, c3⟩ := hcc p ⟨y.1.kind, strOf y.1.name, y.1.of, y.2⟩ (by unfold toB; rw [List.getElem?_map, hy]; rfl)
        clear hcc hq hy HPL c0 c1 c2
        go_wp2
        go_region
        all_goals
          go_wp2
          go_ret3
          exact ⟨_, _, y.2, q, rfl, HPP.out, xpart_nil (HX.out.2.trans (Fr.of_drew _ _))⟩
      · have hpi : ¬ (p : Int) < (m.length : Int) := by omega
        have hy : m[p]? = none := List.getElem?_eq_none (by omega)
        by_cases h3 : q = 3
        · subst h3
          have HPP := Lib.hid (HPL.out 0 (by unfold placeS; rw [if_neg hq, hy]; rfl))
          clear hq hy HPL
          go_wp2
          go_ret3
          exact ⟨_, _, 0, 3, rfl, HPP.out, xpart_nil HX.out.2⟩
        · have g3 : (q == 3) = false := by rw [beq_eq_false_iff_ne]; exact h3
          have HPP := Lib.hid (HPL.out s.size (by unfold placeS; rw [if_neg hq, hy]; simp only []; rw [if_neg h3, bs_len]))
          clear hq hy HPL h3
          go_wp2
          go_ret3
          exact ⟨_, _, s.size, q, rfl, HPP.out, xpart_nil HX.out.2⟩
  · have HP : Hid (ParseIs (bs s) [] p q) := Lib.hid (.inl ⟨h1, rfl⟩)
    have gq : (q == 0) = false := by rw [beq_eq_false_iff_ne]; rcases all_err2 h1 with rfl | rfl <;> decide
    clear h1
    go_wp2
    go_ret3
    exact ⟨_, _, p, q, rfl, HP.out, xpart_nil HK.out⟩

open Go.RowKit Go.ChangeShapes Go.WideShapes
/-- terms that are an expression -/
def MayIs (x : List Tok) (t : Ex) : Prop := t.Ok ∧ x = t.post ∧ x.length ≤ 200
def WholePost (x : List Tok) (w : World) (e : Ending) (w' : World) : Prop :=
  Kept w w' ∧ ((∃ t, MayIs x t ∧ e = .returned (.tuple #[partV 0 t, .bool true])) ∨ ((∀ t, ¬ MayIs x t) ∧ ∃ (a : Int) (b : ByteArray) (c d : Int), e = .returned (.tuple #[.agg #[.int .i64 a, .string b, .int .i64 c, .int .i64 d], .bool false])))
theorem whole_ret {W : World} {g : Nat} {a b c d v : Value} {tmps : Array Value} (h : Four W g a b c d) (h2 : tmps.getD 2 undef = .pointer (some ⟨g, 0, none⟩)) (h3 : tmps.getD 3 undef = v) :
    (results Tryz.f46 tmps).run Tryz.prog W = .ok (.tuple #[.agg #[a, b, c, d], v]) W := by
  have c0 := h.c0
  have c1 := h.c1
  have c2 := h.c2
  have c3 := h.c3
  rw [results_cell_tmp rfl, h2, h3]
  go_simp
theorem may_end {x p : List Tok} {t t' : Ex} (h : EndIs x p t) (h' : MayIs x t') : p = [] ∧ t = t' := by
  have := h.unique (p' := []) ⟨h'.1, by rw [h'.2.1]; rfl⟩
  exact this
set_option maxRecDepth 20000 in
set_option maxHeartbeats 4000000 in
theorem rwhole_any {w : World} {v : Value} {l : List TrmB} (h : ReadsX w v l) (hl : l.length ≤ 1000000) (hs : ∀ t ∈ l, t.name.size ≤ 1000000) :
    Calls Tryz.prog 46 #[v] w (WholePost (l.map TrmB.tok) w) := by
  have HR := Lib.hid h
  have HS := Lib.hid hs
  obtain ⟨ao, c, rfl, hc⟩ := h.form
  clear h hs
  have H0 := Lib.hid (four_new w (.int .i64 0) (.string ⟨#[]⟩) (.int .i64 0) (.int .i64 0) 91)
  have HK0 := Lib.hid (Fr.of_alloc (fun _ => False) w (Obj.cells #[.int .i64 0, .string ⟨#[]⟩, .int .i64 0, .int .i64 0] 91))
  have HLT : Hid ((l.map TrmB.tok).length = l.length) := Lib.hid (by simp)
  by_cases h200 : 200 < l.length
  · have h2i : (200 : Int) < (l.length : Int) := by omega
    have HX : Hid (∀ t, ¬ MayIs (l.map TrmB.tok) t) := Lib.hid (fun t h => by have := h.2.2; rw [HLT.out] at this; omega)
    have r0 := H0.out.c0
    have r1 := H0.out.c1
    have r2 := H0.out.c2
    have r3 := H0.out.c3
    have fr0 := H0.out.fz 0
    have fr1 := H0.out.fz 1
    have fr2 := H0.out.fz 2
    have fr3 := H0.out.fz 3
    clear h200
    go_enter Tryz.func46, Tryz.ntmps46
    go_wp2
    first
      | exact bodyPost_ret (whole_ret H0.out rfl rfl) rfl ⟨HK0.out, .inr ⟨HX.out, 0, ⟨#[]⟩, 0, 0, rfl⟩⟩
      | exact bodyPost_ret (whole_ret H0.out.put rfl rfl) rfl ⟨put_kept HK0.out (Nat.le_refl _), .inr ⟨HX.out, 0, ⟨#[]⟩, 0, 0, rfl⟩⟩
  · have h2i : ¬ (200 : Int) < (l.length : Int) := by omega
    go_enter Tryz.func46, Tryz.ntmps46
    go_wp2_with fail
    refine (rlast_any l.length (w.alloc (Obj.cells #[.int .i64 0, .string ⟨#[]⟩, .int .i64 0, .int .i64 0] 91)) _ l (Nat.le_refl _) (by omega) (HR.out.kept HK0.out) HS.out).mono ?_
    generalize hw0 : w.alloc (Obj.cells #[.int .i64 0, .string ⟨#[]⟩, .int .i64 0, .int .i64 0] 91) = w0 at *
    generalize hg : w.heap.size = g0 at *
    have HG : Hid (w.heap.size ≤ g0) := Lib.hid (by omega)
    rintro e w2 ⟨hk, hpost⟩
    have H1 := Lib.hid (H0.out.kept hk)
    have HK1 := Lib.hid (HK0.out.trans hk)
    clear hk H0 HK0 hw0 hg
    rcases hpost with ⟨p, t, ht, rfl⟩ | ⟨hno, rfl⟩
    · have H2 := Lib.hid (H1.out.kept (Fr.of_alloc _ w2 (Obj.cells #[.int .i64 (p.length : Int), .string (strOf (textE t)), .int .i64 (t.lvl : Int), .int .i64 (t.deep : Int)] 91)))
      have HK2 := Lib.hid (HK1.out.trans (Fr.of_alloc _ w2 (Obj.cells #[.int .i64 (p.length : Int), .string (strOf (textE t)), .int .i64 (t.lvl : Int), .int .i64 (t.deep : Int)] 91)))
      have H2B := Lib.hid (four_new w2 (.int .i64 (p.length : Int)) (.string (strOf (textE t))) (.int .i64 (t.lvl : Int)) (.int .i64 (t.deep : Int)) 91)
      have HT := Lib.hid ht
      have hgl := H1.out.lt
      have H3B := Lib.hid ((((H2B.out.other (g' := g0) (o := 0) (v := .int .i64 (p.length : Int)) (by omega)).other (g' := g0) (o := 1) (v := .string (strOf (textE t))) (by omega)).other (g' := g0) (o := 2) (v := .int .i64 (t.lvl : Int)) (by omega)).other (g' := g0) (o := 3) (v := .int .i64 (t.deep : Int)) (by omega))
      clear ht H1 HK1 hgl
      unfold partV
      have r0 := H2.out.c0
      have r1 := H2.out.c1
      have r2 := H2.out.c2
      have r3 := H2.out.c3
      have fr0 := H2.out.fz 0
      have fr1 := H2.out.fz 1
      have fr2 := H2.out.fz 2
      have fr3 := H2.out.fz 3
      have b0 := H2B.out.c0
      have b1 := H2B.out.c1
      have b2 := H2B.out.c2
      have b3 := H2B.out.c3
      have bb0 := H3B.out.c0
      have bb1 := H3B.out.c1
      have bb2 := H3B.out.c2
      have bb3 := H3B.out.c3
      by_cases hp : p.length = 0
      · have gp : ((p.length : Int) == 0) = true := by rw [beq_iff_eq]; omega
        have hp0 : p = [] := List.eq_nil_of_length_eq_zero hp
        have EV : Hid (partV 0 t = .agg #[.int .i64 (p.length : Int), .string (strOf (textE t)), .int .i64 (t.lvl : Int), .int .i64 (t.deep : Int)]) := Lib.hid (by rw [hp]; rfl)
        have HX : Hid (MayIs (l.map TrmB.tok) t) := Lib.hid ⟨HT.out.ok, by have := HT.out.is; rw [hp0] at this; exact this, by rw [HLT.out]; omega⟩
        clear hp hp0
        go_wp2
        go_region
        all_goals
          go_wp2
          exact bodyPost_ret (whole_ret (H2.out.put.kept (Fr.of_drew _ _)) rfl rfl) rfl ⟨(put_kept HK2.out HG.out).trans (Fr.of_drew _ _), .inl ⟨t, HX.out, by rw [EV.out]; rfl⟩⟩
      · have gp : ((p.length : Int) == 0) = false := by rw [beq_eq_false_iff_ne]; omega
        have HX : Hid (∀ t, ¬ MayIs (l.map TrmB.tok) t) := Lib.hid (fun t' h => hp (by rw [(may_end HT.out h).1]; rfl))
        clear hp
        go_wp2
        go_region
        all_goals
          go_wp2
          exact bodyPost_ret (whole_ret (H2.out.put.kept (Fr.of_drew _ _)) rfl rfl) rfl ⟨(put_kept HK2.out HG.out).trans (Fr.of_drew _ _), .inr ⟨HX.out, _, _, _, _, rfl⟩⟩
    · have H2 := Lib.hid (H1.out.kept (Fr.of_alloc _ w2 (Obj.cells #[.int .i64 0, .string ⟨#[]⟩, .int .i64 0, .int .i64 0] 91)))
      have HK2 := Lib.hid (HK1.out.trans (Fr.of_alloc _ w2 (Obj.cells #[.int .i64 0, .string ⟨#[]⟩, .int .i64 0, .int .i64 0] 91)))
      have H2B := Lib.hid (four_new w2 (.int .i64 0) (.string ⟨#[]⟩) (.int .i64 0) (.int .i64 0) 91)
      have HX : Hid (∀ t, ¬ MayIs (l.map TrmB.tok) t) := Lib.hid (fun t h => hno [] t ⟨h.1, by rw [h.2.1]; rfl⟩)
      rw [noneV_agg]
      have hgl := H1.out.lt
      have H3B := Lib.hid ((((H2B.out.other (g' := g0) (o := 0) (v := .int .i64 0) (by omega)).other (g' := g0) (o := 1) (v := .string ⟨#[]⟩) (by omega)).other (g' := g0) (o := 2) (v := .int .i64 0) (by omega)).other (g' := g0) (o := 3) (v := .int .i64 0) (by omega))
      clear hno H1 HK1 hgl
      have r0 := H2.out.c0
      have r1 := H2.out.c1
      have r2 := H2.out.c2
      have r3 := H2.out.c3
      have fr0 := H2.out.fz 0
      have fr1 := H2.out.fz 1
      have fr2 := H2.out.fz 2
      have fr3 := H2.out.fz 3
      have b0 := H2B.out.c0
      have b1 := H2B.out.c1
      have b2 := H2B.out.c2
      have b3 := H2B.out.c3
      have bb0 := H3B.out.c0
      have bb1 := H3B.out.c1
      have bb2 := H3B.out.c2
      have bb3 := H3B.out.c3
      go_wp2
      go_region
      all_goals
        go_wp2
        exact bodyPost_ret (whole_ret (H2.out.put.kept (Fr.of_drew _ _)) rfl rfl) rfl ⟨(put_kept HK2.out HG.out).trans (Fr.of_drew _ _), .inr ⟨HX.out, _, _, _, _, rfl⟩⟩
def MayXPost (x : List Tok) (w : World) (e : Ending) (w' : World) : Prop :=
  Kept w w' ∧ ((∃ t, MayIs x t ∧ e = .returned (.bool true)) ∨ ((∀ t, ¬ MayIs x t) ∧ e = .returned (.bool false)))
set_option maxRecDepth 20000 in
set_option maxHeartbeats 4000000 in
theorem rmayx_any {w : World} {v : Value} {l : List TrmB} (h : ReadsX w v l) (hl : l.length ≤ 1000000) (hs : ∀ t ∈ l, t.name.size ≤ 1000000) :
    Calls Tryz.prog 23 #[v] w (MayXPost (l.map TrmB.tok) w) := by
  go_enter Tryz.func23, Tryz.ntmps23
  go_wp2_with fail
  refine (rwhole_any h hl hs).mono ?_
  rintro e w1 ⟨hk, hpost⟩
  have HK := Lib.hid hk
  rcases hpost with ⟨t, ht, rfl⟩ | ⟨hno, a, b, c, d, rfl⟩
  · have HT := Lib.hid ht
    have HKA := Lib.hid (hk.trans (Fr.of_alloc _ w1 (Obj.cells #[.int .i64 ((0 : Nat) : Int), .string (strOf (textE t)), .int .i64 (t.lvl : Int), .int .i64 (t.deep : Int)] 91)))
    have HB := Lib.hid (four_new w1 (.int .i64 ((0 : Nat) : Int)) (.string (strOf (textE t))) (.int .i64 (t.lvl : Int)) (.int .i64 (t.deep : Int)) 91)
    unfold partV
    generalize ((0 : Nat) : Int) = zz at *
    have b0 := HB.out.c0
    have b1 := HB.out.c1
    have b2 := HB.out.c2
    have b3 := HB.out.c3
    clear ht hk
    go_wp2
    go_ret
    exact ⟨HKA.out, .inl ⟨t, HT.out, rfl⟩⟩
  · have HX := Lib.hid hno
    have HKA := Lib.hid (hk.trans (Fr.of_alloc _ w1 (Obj.cells #[.int .i64 a, .string b, .int .i64 c, .int .i64 d] 91)))
    clear hno hk
    go_wp2
    go_ret
    exact ⟨HKA.out, .inr ⟨HX.out, rfl⟩⟩

open Go.RowKit Go.ChangeShapes Go.WideShapes
/-- what Parse answers, whatever row it lies in -/
def ParseR (s : List UInt8) (w : World) (e : Ending) (w' : World) : Prop :=
  ∃ v x, ∃ (n : Nat) (q : Int), e = .returned (.tuple #[v, .int .i64 n, .int .i64 q]) ∧ ParseIs s x n q ∧ ReadsX w' v (toX x) ∧ Kept w w'
theorem parse_r {s : List UInt8} {w w' : World} {e : Ending} (h : ParsePost s w e w') : ParseR s w e w' := by
  obtain ⟨v, x, n, q, h1, h2, h3⟩ := h
  exact ⟨v, x, n, q, h1, h2, h3.reads, h3.2⟩
def ReadR (l : List Tok) (w : World) (e : Ending) (w' : World) : Prop :=
  ∃ v x, ∃ (n : Nat) (q : Int), e = .returned (.tuple #[v, .int .i64 n, .int .i64 q]) ∧ ReadIs l x n q ∧ ReadsX w' v (toX x) ∧ Kept w w'
theorem read_r {l : List Tok} {w w' : World} {e : Ending} (h : ReadPost l w e w') : ReadR l w e w' := by
  obtain ⟨v, x, n, q, h1, h2, h3⟩ := h
  exact ⟨v, x, n, q, h1, h2, h3.reads, h3.2⟩

end Go.Proofs.YtbfealhbdemhmaaGreatDoor
