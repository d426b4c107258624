/- Contracts and lemmas: AWrites -/
import Derived.Test.YtdapdpmplbifdaaDoorWWrites
import Derived.Test.YtdapdpmplbifdaaDoorArgs
import Derived.Test.YtdapdpmplbifdaaDoorLaid
namespace Go.Proofs.YtdapdpmplbifdaaDoor
set_option linter.unusedVariables false
set_option linter.unusedSimpArgs false
open Go.RowKit Go.ChangeShapes Go.WideShapes
theorem exprWrites_arg {w : World} (v : Value) (hv : TrmList w v) (hL : LaidT w) : Calls Tryd.prog 5 #[v] w fun e w' => e = .returned (.bool true) ∧ Kept w w' := by
  obtain ⟨l, h, hl, _⟩ := hv
  unfold maxLen at hl
  exact exprWrites_walk h (by omega) hL

end Go.Proofs.YtdapdpmplbifdaaDoor
