/- Contracts and lemmas: L3 -/
import Derived.Test.YtfbmlacklhiecaaL2
import Derived.Test.YtfbmlacklhiecaaR5
namespace Go.Proofs.Ytfbmlacklhiecaa
set_option linter.unusedVariables false
set_option linter.unusedSimpArgs false
open Go.RowKit Go.ChangeShapes Go.WideShapes
set_option maxRecDepth 20000

open Go.RowKit Go.ChangeShapes Go.WideShapes
set_option maxRecDepth 20000
theorem ItemsAt.kept {w w' : World} {v : Value} {l : List Itm} (h : ItemsAt w v l) (k : Kept w w') : ItemsAt w' v l := by
  obtain ⟨ao, c, hv, h1, h2, h3, h4⟩ := h
  refine ⟨ao, c, hv, h1, h2, fun i x hi => ?_, h4⟩
  obtain ⟨g, off, ha, hat⟩ := h3 i x hi
  exact ⟨g, off, ha, hat.kept k⟩
theorem OutAt.byR {B b r : Nat} {s s' : Option (List UInt8)} {w w' : World} (h : OutAt B b s w) (hr : ROutAt r s' w) (hf : Fr (fun k => k = r) w w') (hb : b ≠ r) : OutAt B b s w' := by
  obtain ⟨q, hh, _⟩ := hr
  exact h.one hf hh (fun e => hb e.symm) (by decide)
theorem OutAt.byI {B b r : Nat} {s s' : Option (List UInt8)} {w w' : World} (h : OutAt B b s w) (hr : InAt r s' w) (hf : Fr (fun k => k = r) w w') (hb : b ≠ r) : OutAt B b s w' := by
  obtain ⟨q, hh, _⟩ := hr
  exact h.one hf hh (fun e => hb e.symm) (by decide)
/-- an Out and the document's, alike -/
structure St2 (w0 : World) (bo br : Nat) (s : Option (List UInt8)) (w : World) : Prop where
  o : OutAt w0.heap.size bo s w
  r : ROutAt br s w
  k : Kept w0 w
  ho : w0.heap.size ≤ bo
  hr : w0.heap.size ≤ br
  ne : br ≠ bo
theorem St2.kept {w0 : World} {bo br : Nat} {s : Option (List UInt8)} {w w' : World} (h : St2 w0 bo br s w) (k : Kept w w') : St2 w0 bo br s w' := ⟨h.o.kept k, h.r.kept k, h.k.trans k, h.ho, h.hr, h.ne⟩
/-- behind the Out's call: the document's is one behind -/
theorem St2.half {w0 : World} {bo br : Nat} {s s' : Option (List UInt8)} {w w' : World} (h : St2 w0 bo br s w) (h1 : OutAt w0.heap.size bo s' w') (t : TurnB w0.heap.size bo w w') : ROutAt br s w' ∧ Kept w0 w' :=
  ⟨h.r.turnB t h.ne, t.over h.k h.ho (Nat.le_refl _)⟩
theorem St2.step {w0 : World} {bo br : Nat} {s s' : Option (List UInt8)} {w w1 w2 : World} (h : St2 w0 bo br s w) (h1 : OutAt w0.heap.size bo s' w1) (t : TurnB w0.heap.size bo w w1) (h2 : ROutAt br s' w2) (f : Fr (fun k => k = br) w1 w2) : St2 w0 bo br s' w2 :=
  ⟨h1.byR (h.half h1 t).1 f (fun e => h.ne e.symm), h2, fr_over f (h.half h1 t).2 h.hr, h.ho, h.hr, h.ne⟩
theorem st2_new {w0 w : World} (k : Kept w0 w) : St2 w0 w.heap.size (w.heap.size + 1) (some []) ((w.alloc (Obj.cells #[.int .i64 0, .slice none 0 0] 31)).alloc (Obj.cells #[.string ⟨#[]⟩, .bool false] 34)) := by
  refine ⟨(out_new w w0.heap.size).kept (Fr.of_alloc _ _ _), ⟨⟨#[]⟩, ?_, fun l hl => by cases hl; rfl⟩, (k.trans (Fr.of_alloc _ _ _)).trans (Fr.of_alloc _ _ _), k.size, by have := k.size; omega, by omega⟩
  have := heap_alloc_new (w.alloc (Obj.cells #[.int .i64 0, .slice none 0 0] 31)) (Obj.cells #[.string ⟨#[]⟩, .bool false] 34)
  simpa using this
/-- the five cells of an item's copy -/
def Cop (b : Nat) (x : Itm) (w : World) : Prop := w.heap[b]? = some (.cells #[.int .i64 x.kind, .int .i64 x.n, .string x.t, .string x.wd, x.sv] 39 (0, 0))
theorem Cop.c1 {b : Nat} {x : Itm} {w : World} (h : Cop b x w) : w.cell? ⟨b, 1, none⟩ = some (.int .i64 x.n) := by rw [Lib.cell_of_heap h]; rfl
theorem Cop.c2 {b : Nat} {x : Itm} {w : World} (h : Cop b x w) : w.cell? ⟨b, 2, none⟩ = some (.string x.t) := by rw [Lib.cell_of_heap h]; rfl
theorem Cop.c3 {b : Nat} {x : Itm} {w : World} (h : Cop b x w) : w.cell? ⟨b, 3, none⟩ = some (.string x.wd) := by rw [Lib.cell_of_heap h]; rfl
theorem Cop.c4 {b : Nat} {x : Itm} {w : World} (h : Cop b x w) : w.cell? ⟨b, 4, none⟩ = some x.sv := by rw [Lib.cell_of_heap h]; rfl
theorem Cop.turnB {B b c : Nat} {x : Itm} {w w' : World} (h : Cop c x w) (hf : TurnB B b w w') (hb : c ≠ b) : Cop c x w' := hf.other h hb (by decide)
theorem Cop.fr {c : Nat} {x : Itm} {w w' : World} {F : Nat → Prop} (h : Cop c x w) (hf : Fr F w w') (hb : ¬ F c) : Cop c x w' := by
  unfold Cop; rw [hf.block c (heap_lt h) hb]; exact h

end Go.Proofs.Ytfbmlacklhiecaa
