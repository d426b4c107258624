/- Contracts and lemmas: Wh -/
import Derived.Test.YtdapdpmplbifdaaDoorLastB
namespace Go.Proofs.YtdapdpmplbifdaaDoor
set_option linter.unusedVariables false
set_option linter.unusedSimpArgs false
open Go.RowKit Go.ChangeShapes Go.WideShapes
/-- terms that are an expression -/
def MayIs (x : List Tok) (t : Ex) : Prop := t.Ok ∧ x = t.post ∧ x.length ≤ 200
def WholePost (x : List Tok) (w : World) (e : Ending) (w' : World) : Prop :=
  Kept w w' ∧ ((∃ t, MayIs x t ∧ e = .returned (.tuple #[partV 0 t, .bool true])) ∨ ((∀ t, ¬ MayIs x t) ∧ ∃ (a : Int) (b : ByteArray) (c d : Int), e = .returned (.tuple #[.agg #[.int .i64 a, .string b, .int .i64 c, .int .i64 d], .bool false])))
theorem whole_ret {W : World} {g : Nat} {a b c d v : Value} {tmps : Array Value} (h : Four W g a b c d) (h2 : tmps.getD 2 undef = .pointer (some ⟨g, 0, none⟩)) (h3 : tmps.getD 3 undef = v) :
    (results Tryd.f36 tmps).run Tryd.prog W = .ok (.tuple #[.agg #[a, b, c, d], v]) W := by
  have c0 := h.c0
  have c1 := h.c1
  have c2 := h.c2
  have c3 := h.c3
  rw [results_cell_tmp rfl, h2, h3]
  go_simp
theorem may_end {x p : List Tok} {t t' : Ex} (h : EndIs x p t) (h' : MayIs x t') : p = [] ∧ t = t' := by
  have := h.unique (p' := []) ⟨h'.1, by rw [h'.2.1]; rfl⟩
  exact this
set_option maxRecDepth 20000 in
set_option maxHeartbeats 4000000 in
theorem rwhole_any {w : World} {v : Value} {l : List TrmB} (h : ReadsX w v l) (hl : l.length ≤ 1000000) (hs : ∀ t ∈ l, t.name.size ≤ 1000000) :
    Calls Tryd.prog 36 #[v] w (WholePost (l.map TrmB.tok) w) := by
  have HR := Lib.hid h
  have HS := Lib.hid hs
  obtain ⟨ao, c, rfl, hc⟩ := h.form
  clear h hs
  have H0 := Lib.hid (four_new w (.int .i64 0) (.string ⟨#[]⟩) (.int .i64 0) (.int .i64 0) 56)
  have HK0 := Lib.hid (Fr.of_alloc (fun _ => False) w (Obj.cells #[.int .i64 0, .string ⟨#[]⟩, .int .i64 0, .int .i64 0] 56))
  have HLT : Hid ((l.map TrmB.tok).length = l.length) := Lib.hid (by simp)
  by_cases h200 : 200 < l.length
  · have h2i : (200 : Int) < (l.length : Int) := by omega
    have HX : Hid (∀ t, ¬ MayIs (l.map TrmB.tok) t) := Lib.hid (fun t h => by have := h.2.2; rw [HLT.out] at this; omega)
    have r0 := H0.out.c0
    have r1 := H0.out.c1
    have r2 := H0.out.c2
    have r3 := H0.out.c3
    have fr0 := H0.out.fz 0
    have fr1 := H0.out.fz 1
    have fr2 := H0.out.fz 2
    have fr3 := H0.out.fz 3
    clear h200
    go_enter Tryd.func36, Tryd.ntmps36
    go_wp2
    first
      | exact bodyPost_ret (whole_ret H0.out rfl rfl) rfl ⟨HK0.out, .inr ⟨HX.out, 0, ⟨#[]⟩, 0, 0, rfl⟩⟩
      | exact bodyPost_ret (whole_ret H0.out.put rfl rfl) rfl ⟨put_kept HK0.out (Nat.le_refl _), .inr ⟨HX.out, 0, ⟨#[]⟩, 0, 0, rfl⟩⟩
  · have h2i : ¬ (200 : Int) < (l.length : Int) := by omega
    go_enter Tryd.func36, Tryd.ntmps36
    go_wp2_with fail
    refine (rlast_any l.length (w.alloc (Obj.cells #[.int .i64 0, .string ⟨#[]⟩, .int .i64 0, .int .i64 0] 56)) _ l (Nat.le_refl _) (by omega) (HR.out.kept HK0.out) HS.out).mono ?_
    generalize hw0 : w.alloc (Obj.cells #[.int .i64 0, .string ⟨#[]⟩, .int .i64 0, .int .i64 0] 56) = w0 at *
    generalize hg : w.heap.size = g0 at *
    have HG : Hid (w.heap.size ≤ g0) := Lib.hid (by omega)
    rintro e w2 ⟨hk, hpost⟩
    have H1 := Lib.hid (H0.out.kept hk)
    have HK1 := Lib.hid (HK0.out.trans hk)
    clear hk H0 HK0 hw0 hg
    rcases hpost with ⟨p, t, ht, rfl⟩ | ⟨hno, rfl⟩
    · have H2 := Lib.hid (H1.out.kept (Fr.of_alloc _ w2 (Obj.cells #[.int .i64 (p.length : Int), .string (strOf (textE t)), .int .i64 (t.lvl : Int), .int .i64 (t.deep : Int)] 56)))
      have HK2 := Lib.hid (HK1.out.trans (Fr.of_alloc _ w2 (Obj.cells #[.int .i64 (p.length : Int), .string (strOf (textE t)), .int .i64 (t.lvl : Int), .int .i64 (t.deep : Int)] 56)))
      have H2B := Lib.hid (four_new w2 (.int .i64 (p.length : Int)) (.string (strOf (textE t))) (.int .i64 (t.lvl : Int)) (.int .i64 (t.deep : Int)) 56)
      have HT := Lib.hid ht
      have hgl := H1.out.lt
      have H3B := Lib.hid ((((H2B.out.other (g' := g0) (o := 0) (v := .int .i64 (p.length : Int)) (by omega)).other (g' := g0) (o := 1) (v := .string (strOf (textE t))) (by omega)).other (g' := g0) (o := 2) (v := .int .i64 (t.lvl : Int)) (by omega)).other (g' := g0) (o := 3) (v := .int .i64 (t.deep : Int)) (by omega))
      clear ht H1 HK1 hgl
      unfold partV
      have r0 := H2.out.c0
      have r1 := H2.out.c1
      have r2 := H2.out.c2
      have r3 := H2.out.c3
      have fr0 := H2.out.fz 0
      have fr1 := H2.out.fz 1
      have fr2 := H2.out.fz 2
      have fr3 := H2.out.fz 3
      have b0 := H2B.out.c0
      have b1 := H2B.out.c1
      have b2 := H2B.out.c2
      have b3 := H2B.out.c3
      have bb0 := H3B.out.c0
      have bb1 := H3B.out.c1
      have bb2 := H3B.out.c2
      have bb3 := H3B.out.c3
      by_cases hp : p.length = 0
      · have gp : ((p.length : Int) == 0) = true := by rw [beq_iff_eq]; omega
        have hp0 : p = [] := List.eq_nil_of_length_eq_zero hp
        have EV : Hid (partV 0 t = .agg #[.int .i64 (p.length : Int), .string (strOf (textE t)), .int .i64 (t.lvl : Int), .int .i64 (t.deep : Int)]) := Lib.hid (by rw [hp]; rfl)
        have HX : Hid (MayIs (l.map TrmB.tok) t) := Lib.hid ⟨HT.out.ok, by have := HT.out.is; rw [hp0] at this; exact this, by rw [HLT.out]; omega⟩
        clear hp hp0
        go_wp2
        go_region
        all_goals
          go_wp2
          exact bodyPost_ret (whole_ret (H2.out.put.kept (Fr.of_drew _ _)) rfl rfl) rfl ⟨(put_kept HK2.out HG.out).trans (Fr.of_drew _ _), .inl ⟨t, HX.out, by rw [EV.out]; rfl⟩⟩
      · have gp : ((p.length : Int) == 0) = false := by rw [beq_eq_false_iff_ne]; omega
        have HX : Hid (∀ t, ¬ MayIs (l.map TrmB.tok) t) := Lib.hid (fun t' h => hp (by rw [(may_end HT.out h).1]; rfl))
        clear hp
        go_wp2
        go_region
        all_goals
          go_wp2
          exact bodyPost_ret (whole_ret (H2.out.put.kept (Fr.of_drew _ _)) rfl rfl) rfl ⟨(put_kept HK2.out HG.out).trans (Fr.of_drew _ _), .inr ⟨HX.out, _, _, _, _, rfl⟩⟩
    · have H2 := Lib.hid (H1.out.kept (Fr.of_alloc _ w2 (Obj.cells #[.int .i64 0, .string ⟨#[]⟩, .int .i64 0, .int .i64 0] 56)))
      have HK2 := Lib.hid (HK1.out.trans (Fr.of_alloc _ w2 (Obj.cells #[.int .i64 0, .string ⟨#[]⟩, .int .i64 0, .int .i64 0] 56)))
      have H2B := Lib.hid (four_new w2 (.int .i64 0) (.string ⟨#[]⟩) (.int .i64 0) (.int .i64 0) 56)
      have HX : Hid (∀ t, ¬ MayIs (l.map TrmB.tok) t) := Lib.hid (fun t h => hno [] t ⟨h.1, by rw [h.2.1]; rfl⟩)
      rw [noneV_agg]
      have hgl := H1.out.lt
      have H3B := Lib.hid ((((H2B.out.other (g' := g0) (o := 0) (v := .int .i64 0) (by omega)).other (g' := g0) (o := 1) (v := .string ⟨#[]⟩) (by omega)).other (g' := g0) (o := 2) (v := .int .i64 0) (by omega)).other (g' := g0) (o := 3) (v := .int .i64 0) (by omega))
      clear hno H1 HK1 hgl
      have r0 := H2.out.c0
      have r1 := H2.out.c1
      have r2 := H2.out.c2
      have r3 := H2.out.c3
      have fr0 := H2.out.fz 0
      have fr1 := H2.out.fz 1
      have fr2 := H2.out.fz 2
      have fr3 := H2.out.fz 3
      have b0 := H2B.out.c0
      have b1 := H2B.out.c1
      have b2 := H2B.out.c2
      have b3 := H2B.out.c3
      have bb0 := H3B.out.c0
      have bb1 := H3B.out.c1
      have bb2 := H3B.out.c2
      have bb3 := H3B.out.c3
      go_wp2
      go_region
      all_goals
        go_wp2
        exact bodyPost_ret (whole_ret (H2.out.put.kept (Fr.of_drew _ _)) rfl rfl) rfl ⟨(put_kept HK2.out HG.out).trans (Fr.of_drew _ _), .inr ⟨HX.out, _, _, _, _, rfl⟩⟩
def MayXPost (x : List Tok) (w : World) (e : Ending) (w' : World) : Prop :=
  Kept w w' ∧ ((∃ t, MayIs x t ∧ e = .returned (.bool true)) ∨ ((∀ t, ¬ MayIs x t) ∧ e = .returned (.bool false)))
set_option maxRecDepth 20000 in
set_option maxHeartbeats 4000000 in
theorem rmayx_any {w : World} {v : Value} {l : List TrmB} (h : ReadsX w v l) (hl : l.length ≤ 1000000) (hs : ∀ t ∈ l, t.name.size ≤ 1000000) :
    Calls Tryd.prog 20 #[v] w (MayXPost (l.map TrmB.tok) w) := by
  go_enter Tryd.func20, Tryd.ntmps20
  go_wp2_with fail
  refine (rwhole_any h hl hs).mono ?_
  rintro e w1 ⟨hk, hpost⟩
  have HK := Lib.hid hk
  rcases hpost with ⟨t, ht, rfl⟩ | ⟨hno, a, b, c, d, rfl⟩
  · have HT := Lib.hid ht
    have HKA := Lib.hid (hk.trans (Fr.of_alloc _ w1 (Obj.cells #[.int .i64 ((0 : Nat) : Int), .string (strOf (textE t)), .int .i64 (t.lvl : Int), .int .i64 (t.deep : Int)] 56)))
    have HB := Lib.hid (four_new w1 (.int .i64 ((0 : Nat) : Int)) (.string (strOf (textE t))) (.int .i64 (t.lvl : Int)) (.int .i64 (t.deep : Int)) 56)
    unfold partV
    generalize ((0 : Nat) : Int) = zz at *
    have b0 := HB.out.c0
    have b1 := HB.out.c1
    have b2 := HB.out.c2
    have b3 := HB.out.c3
    clear ht hk
    go_wp2
    go_ret
    exact ⟨HKA.out, .inl ⟨t, HT.out, rfl⟩⟩
  · have HX := Lib.hid hno
    have HKA := Lib.hid (hk.trans (Fr.of_alloc _ w1 (Obj.cells #[.int .i64 a, .string b, .int .i64 c, .int .i64 d] 56)))
    clear hno hk
    go_wp2
    go_ret
    exact ⟨HKA.out, .inr ⟨HX.out, rfl⟩⟩
def TextXPost (x : List Tok) (w : World) (e : Ending) (w' : World) : Prop :=
  Kept w w' ∧ ((∃ t, MayIs x t ∧ e = .returned (.tuple #[.string (strOf (textE t)), .int .i64 0])) ∨ ((∀ t, ¬ MayIs x t) ∧ e = .returned (.tuple #[.string ⟨#[]⟩, .int .i64 2])))
set_option maxRecDepth 20000 in
set_option maxHeartbeats 4000000 in
theorem rtextx_any {w : World} {v : Value} {l : List TrmB} (h : ReadsX w v l) (hl : l.length ≤ 1000000) (hs : ∀ t ∈ l, t.name.size ≤ 1000000) :
    Calls Tryd.prog 18 #[v] w (TextXPost (l.map TrmB.tok) w) := by
  go_enter Tryd.func18, Tryd.ntmps18
  go_wp2_with fail
  refine (rwhole_any h hl hs).mono ?_
  rintro e w1 ⟨hk, hpost⟩
  have HK := Lib.hid hk
  rcases hpost with ⟨t, ht, rfl⟩ | ⟨hno, a, b, c, d, rfl⟩
  · have HT := Lib.hid ht
    have HKA := Lib.hid (hk.trans (Fr.of_alloc _ w1 (Obj.cells #[.int .i64 ((0 : Nat) : Int), .string (strOf (textE t)), .int .i64 (t.lvl : Int), .int .i64 (t.deep : Int)] 56)))
    have HB := Lib.hid (four_new w1 (.int .i64 ((0 : Nat) : Int)) (.string (strOf (textE t))) (.int .i64 (t.lvl : Int)) (.int .i64 (t.deep : Int)) 56)
    unfold partV
    generalize ((0 : Nat) : Int) = zz at *
    have b0 := HB.out.c0
    have b1 := HB.out.c1
    have b2 := HB.out.c2
    have b3 := HB.out.c3
    clear ht hk
    go_wp2
    go_ret2
    exact ⟨HKA.out, .inl ⟨t, HT.out, rfl⟩⟩
  · have HX := Lib.hid hno
    have HKA := Lib.hid (hk.trans (Fr.of_alloc _ w1 (Obj.cells #[.int .i64 a, .string b, .int .i64 c, .int .i64 d] 56)))
    clear hno hk
    go_wp2
    go_ret2
    exact ⟨HKA.out, .inr ⟨HX.out, rfl⟩⟩
def DeepXPost (x : List Tok) (w : World) (e : Ending) (w' : World) : Prop :=
  Kept w w' ∧ ((∃ t, MayIs x t ∧ e = .returned (.int .i64 (t.deep : Int))) ∨ ((∀ t, ¬ MayIs x t) ∧ e = .returned (.int .i64 0)))
set_option maxRecDepth 20000 in
set_option maxHeartbeats 4000000 in
theorem rdeepx_any {w : World} {v : Value} {l : List TrmB} (h : ReadsX w v l) (hl : l.length ≤ 1000000) (hs : ∀ t ∈ l, t.name.size ≤ 1000000) :
    Calls Tryd.prog 22 #[v] w (DeepXPost (l.map TrmB.tok) w) := by
  go_enter Tryd.func22, Tryd.ntmps22
  go_wp2_with fail
  refine (rwhole_any h hl hs).mono ?_
  rintro e w1 ⟨hk, hpost⟩
  have HK := Lib.hid hk
  rcases hpost with ⟨t, ht, rfl⟩ | ⟨hno, a, b, c, d, rfl⟩
  · have HT := Lib.hid ht
    have HKA := Lib.hid (hk.trans (Fr.of_alloc _ w1 (Obj.cells #[.int .i64 ((0 : Nat) : Int), .string (strOf (textE t)), .int .i64 (t.lvl : Int), .int .i64 (t.deep : Int)] 56)))
    have HB := Lib.hid (four_new w1 (.int .i64 ((0 : Nat) : Int)) (.string (strOf (textE t))) (.int .i64 (t.lvl : Int)) (.int .i64 (t.deep : Int)) 56)
    unfold partV
    generalize ((0 : Nat) : Int) = zz at *
    have b0 := HB.out.c0
    have b1 := HB.out.c1
    have b2 := HB.out.c2
    have b3 := HB.out.c3
    clear ht hk
    go_wp2
    go_ret
    exact ⟨HKA.out, .inl ⟨t, HT.out, rfl⟩⟩
  · have HX := Lib.hid hno
    have HKA := Lib.hid (hk.trans (Fr.of_alloc _ w1 (Obj.cells #[.int .i64 a, .string b, .int .i64 c, .int .i64 d] 56)))
    clear hno hk
    go_wp2
    go_ret
    exact ⟨HKA.out, .inr ⟨HX.out, rfl⟩⟩

end Go.Proofs.YtdapdpmplbifdaaDoor
