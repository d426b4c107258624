/- Contracts and lemmas: ABack -/
import Derived.Test.YtdapdpmplbifdaaDoorWBack
import Derived.Test.YtdapdpmplbifdaaDoorArgs
import Derived.Test.YtdapdpmplbifdaaDoorLaid
namespace Go.Proofs.YtdapdpmplbifdaaDoor
set_option linter.unusedVariables false
set_option linter.unusedSimpArgs false
open Go.RowKit Go.ChangeShapes Go.WideShapes
theorem exprBack_arg {w : World} (v : Value) (hv : TrmList w v) (s : ByteArray) (hs : s.size ≤ maxLen) (hL : LaidT w) : Calls Tryd.prog 6 #[v, .string s] w fun e w' => e = .returned (.bool true) ∧ Kept w w' := by
  obtain ⟨l, h, hl, _⟩ := hv
  have h2 := hl
  unfold maxLen at h2
  exact exprBack_walk s h (by omega) hs hL

end Go.Proofs.YtdapdpmplbifdaaDoor
