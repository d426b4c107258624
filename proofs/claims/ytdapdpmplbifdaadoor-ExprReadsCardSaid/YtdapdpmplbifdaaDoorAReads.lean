/- Contracts and lemmas: AReads -/
import Derived.Test.YtdapdpmplbifdaaDoorWReads
import Derived.Test.YtdapdpmplbifdaaDoorArgs
import Derived.Test.YtdapdpmplbifdaaDoorLaid
namespace Go.Proofs.YtdapdpmplbifdaaDoor
set_option linter.unusedVariables false
set_option linter.unusedSimpArgs false
open Go.RowKit Go.ChangeShapes Go.WideShapes
theorem exprReads_arg {w : World} (v : Value) (hv : TokList w v) (hL : LaidT w) : Calls Tryd.prog 4 #[v] w fun e w' => e = .returned (.bool true) ∧ Kept w w' := by
  obtain ⟨l, h, hl, _⟩ := hv
  unfold maxLen at hl
  exact exprReads_walk h (by omega) hL

end Go.Proofs.YtdapdpmplbifdaaDoor
