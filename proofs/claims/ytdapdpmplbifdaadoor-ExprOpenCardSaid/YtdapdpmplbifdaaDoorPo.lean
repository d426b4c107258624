/- Contracts and lemmas: Po -/
import Derived.Test.YtdapdpmplbifdaaDoorDr
import Derived.Test.YtdapdpmplbifdaaDoorRd
namespace Go.Proofs.YtdapdpmplbifdaaDoor
set_option linter.unusedVariables false
set_option linter.unusedSimpArgs false
open Go.RowKit Go.ChangeShapes Go.WideShapes
/-- what Parse answers, whatever row it lies in -/
def ParseR (s : List UInt8) (w : World) (e : Ending) (w' : World) : Prop :=
  ∃ v x, ∃ (n : Nat) (q : Int), e = .returned (.tuple #[v, .int .i64 n, .int .i64 q]) ∧ ParseIs s x n q ∧ ReadsX w' v (toX x) ∧ Kept w w'
theorem parse_r {s : List UInt8} {w w' : World} {e : Ending} (h : ParsePost s w e w') : ParseR s w e w' := by
  obtain ⟨v, x, n, q, h1, h2, h3⟩ := h
  exact ⟨v, x, n, q, h1, h2, h3.reads, h3.2⟩
def ReadR (l : List Tok) (w : World) (e : Ending) (w' : World) : Prop :=
  ∃ v x, ∃ (n : Nat) (q : Int), e = .returned (.tuple #[v, .int .i64 n, .int .i64 q]) ∧ ReadIs l x n q ∧ ReadsX w' v (toX x) ∧ Kept w w'
theorem read_r {l : List Tok} {w w' : World} {e : Ending} (h : ReadPost l w e w') : ReadR l w e w' := by
  obtain ⟨v, x, n, q, h1, h2, h3⟩ := h
  exact ⟨v, x, n, q, h1, h2, h3.reads, h3.2⟩

end Go.Proofs.YtdapdpmplbifdaaDoor
