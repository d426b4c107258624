/- Contracts and lemmas: K5 -/
import Derived.Test.YtdapdpmplbifdaaDoorK4
import Derived.Test.YtdapdpmplbifdaaDoorPo
import Derived.Laws.EntriesVeiled
namespace Go.Proofs.YtdapdpmplbifdaaDoor
set_option linter.unusedVariables false
set_option linter.unusedSimpArgs false
open Go.RowKit Go.ChangeShapes Go.WideShapes
set_option maxRecDepth 20000
theorem ps_new (w : World) (lv f : Value) (t1 t2 t3 t4 : TypeId) (hf : f = .func (.func 50) #[] #[.pointer (some ⟨w.heap.size, 0, none⟩), .pointer (some ⟨w.heap.size + 1 + 1, 0, none⟩), .pointer (some ⟨w.heap.size + 1 + 1 + 1, 0, none⟩), .pointer (some ⟨w.heap.size + 1, 0, none⟩)]) :
    PS w (w.heap.size + 1 + 1 + 1 + 1) w.heap.size (w.heap.size + 1) (w.heap.size + 1 + 1) (w.heap.size + 1 + 1 + 1) lv ((((w.alloc (.cells #[lv] t1)).alloc (.cells #[.slice none 0 0] t2)).alloc (.cells #[.int .i64 0] t3)).alloc (.cells #[f] t4)) 0 [] (.slice none 0 0) ∧
    Apart w (w.heap.size + 1 + 1 + 1 + 1) w.heap.size (w.heap.size + 1) (w.heap.size + 1 + 1) (w.heap.size + 1 + 1 + 1) := by
  subst hf
  have k := fun (W : World) (o : Obj) => Fr.of_alloc (fun _ => False) W o
  refine ⟨⟨(((k _ _).trans (k _ _)).trans (k _ _)).trans (k _ _), (((one_new w lv t1).kept (k _ _)).kept (k _ _)).kept (k _ _), ?_, ?_, ?_, own_nil _ _ _ _, by simp⟩, ⟨⟨by omega, by omega, by omega, by omega⟩, ⟨by omega, by omega, by omega, by omega⟩, by omega, by omega, by omega, by omega, by omega⟩⟩
  · have := one_new (w.alloc (.cells #[lv] t1)) (.slice none 0 0) t2
    rw [World.size_alloc] at this
    exact (this.kept (k _ _)).kept (k _ _)
  · have := one_new ((w.alloc (.cells #[lv] t1)).alloc (.cells #[.slice none 0 0] t2)) (.int .i64 0) t3
    rw [World.size_alloc, World.size_alloc] at this
    exact this.kept (k _ _)
  · have := one_new (((w.alloc (.cells #[lv] t1)).alloc (.cells #[.slice none 0 0] t2)).alloc (.cells #[.int .i64 0] t3)) (.func (.func 50) #[] #[.pointer (some ⟨w.heap.size, 0, none⟩), .pointer (some ⟨w.heap.size + 1 + 1, 0, none⟩), .pointer (some ⟨w.heap.size + 1 + 1 + 1, 0, none⟩), .pointer (some ⟨w.heap.size + 1, 0, none⟩)]) t4
    rw [World.size_alloc, World.size_alloc, World.size_alloc] at this
    exact this
theorem PS.part {w : World} {B bl bx ba bn : Nat} {lv : Value} {W : World} {i : Nat} {x : List Tok} {xv : Value} (h : PS w B bl bx ba bn lv W i x xv) (hA : Apart w B bl bx ba bn) : XPart w W x xv :=
  ⟨own_base h.row (fun g hg => by have := (h.own hg).1; have := hA.w0.1; have := hA.hb.1; omega), h.kept⟩
theorem kpostfix_any {w : World} {v : Value} {l : List TokB} {p : PT} (h : ReadsT w v l) (hl : l.length ≤ 1000000) (hp : p.Ok) (ht : p.toks = l.map TokB.tok) : Calls Tryd.prog 28 #[v] w (TermsPost p.ex.post w) := by
  have HR := Lib.hid h
  obtain ⟨ao, c, rfl, _⟩ := h
  have H0 := Lib.hid (ps_new w (.slice ao l.length c) _ 29 23 3 50 rfl)
  have HCL := Lib.hid (knext_any hl H0.out.2 HR.out p.toks.length p 1 0 [] _ [] (.slice none 0 0) (Nat.le_refl _) hp (PT.lev_pos hp) (Nat.le_refl _) (by rw [ht]; simp) (fun t s e => by cases e) (Nat.le_refl _) H0.out.1)
  clear hp ht
  go_enter Tryd.func28, Tryd.ntmps28
  go_wp2_with fail
  refine HCL.out.mono ?_
  rintro e w2 ⟨xv2, rfl, hps, _⟩
  have H2 := Lib.hid hps
  have cx := H2.out.xx.cell
  obtain ⟨a2, k2, rfl, _⟩ := own_slice H2.out.row
  clear hps
  go_wp2
  go_ret
  exact ⟨_, rfl, H2.out.part H0.out.2⟩

end Go.Proofs.YtdapdpmplbifdaaDoor
