/- Contracts and lemmas: LastA -/
import Derived.Test.YtdapdpmplbifdaaDoorTrm
import Derived.Laws.ResultCell
import Derived.Laws.Concat
namespace Go.Proofs.YtdapdpmplbifdaaDoor
set_option linter.unusedVariables false
set_option linter.unusedSimpArgs false
open Go.RowKit Go.ChangeShapes Go.WideShapes
def partV (n : Nat) (e : Ex) : Value := .agg #[.int .i64 (n : Int), .string (strOf (textE e)), .int .i64 (e.lvl : Int), .int .i64 (e.deep : Int)]
def noneV : Value := .agg #[.int .i64 0, .string ⟨#[]⟩, .int .i64 0, .int .i64 0]
def LastPost (x : List Tok) (w : World) (e : Ending) (w' : World) : Prop :=
  Kept w w' ∧ ((∃ p t, EndIs x p t ∧ e = .returned (.tuple #[partV p.length t, .bool true])) ∨ ((∀ p t, ¬ EndIs x p t) ∧ e = .returned (.tuple #[noneV, .bool false])))
theorem last_ret {W : World} {g : Nat} {a b c d v : Value} {tmps : Array Value} (h : Four W g a b c d) (h2 : tmps.getD 2 undef = .pointer (some ⟨g, 0, none⟩)) (h3 : tmps.getD 3 undef = v) :
    (results Tryd.f57 tmps).run Tryd.prog W = .ok (.tuple #[.agg #[a, b, c, d], v]) W := by
  have c0 := h.c0
  have c1 := h.c1
  have c2 := h.c2
  have c3 := h.c3
  rw [results_cell_tmp rfl, h2, h3]
  go_simp
structure LS (w W : World) (g0 g1 : Nat) : Prop where
  kept : Kept w W
  n0 : w.heap.size ≤ g0
  ne : g0 ≠ g1
  r : Four W g0 (.int .i64 0) (.string ⟨#[]⟩) (.int .i64 0) (.int .i64 0)
  z : Four W g1 (.int .i64 0) (.string ⟨#[]⟩) (.int .i64 0) (.int .i64 0)
theorem LS.later {w W W1 : World} {g0 g1 : Nat} (h : LS w W g0 g1) (hk : Kept W W1) : LS w W1 g0 g1 := ⟨h.kept.trans hk, h.n0, h.ne, h.r.kept hk, h.z.kept hk⟩
theorem ls_new (w : World) (t : TypeId) : LS w ((w.alloc (Obj.cells #[.int .i64 0, .string ⟨#[]⟩, .int .i64 0, .int .i64 0] t)).alloc (Obj.cells #[.int .i64 0, .string ⟨#[]⟩, .int .i64 0, .int .i64 0] t)) w.heap.size (w.heap.size + 1) := by
  refine ⟨(Fr.of_alloc _ _ _).trans (Fr.of_alloc _ _ _), Nat.le_refl _, by omega, (four_new w _ _ _ _ _).kept (Fr.of_alloc _ _ _), ?_⟩
  have := four_new (w.alloc (Obj.cells #[.int .i64 0, .string ⟨#[]⟩, .int .i64 0, .int .i64 0] t)) (.int .i64 0) (.string ⟨#[]⟩) (.int .i64 0) (.int .i64 0) t
  rwa [World.size_alloc] at this
theorem text_bound (e : Ex) : (textE e).length ≤ 41 * (3 * e.post.length) := by
  unfold textE
  have h1 := join_le (canS 1 e).toks
  have h2 := PT.len (canS 1 e)
  have h3 := can_cnt e 1
  rw [can_ex] at h2
  have : (canS 1 e).toks.length ≤ 3 * e.post.length := by omega
  calc _ ≤ (canS 1 e).toks.length * 41 := h1
    _ ≤ 3 * e.post.length * 41 := Nat.mul_le_mul_right _ this
    _ = _ := Nat.mul_comm _ _
theorem part_bound (v : Nat) (e : Ex) : (partE v e).length ≤ 41 * (3 * e.post.length) + 4 := by
  unfold partE
  have := text_bound e
  split
  · simp; omega
  · omega
theorem noneV_agg : noneV = .agg #[.int .i64 0, .string ⟨#[]⟩, .int .i64 0, .int .i64 0] := rfl

end Go.Proofs.YtdapdpmplbifdaaDoor
