/- Contracts and lemmas: AJoins -/
import Derived.Test.YtdapdpmplbifdaaDoorWJoins
import Derived.Test.YtdapdpmplbifdaaDoorArgs
import Derived.Test.YtdapdpmplbifdaaDoorLaid
namespace Go.Proofs.YtdapdpmplbifdaaDoor
set_option linter.unusedVariables false
set_option linter.unusedSimpArgs false
open Go.RowKit Go.ChangeShapes Go.WideShapes
theorem exprJoins_arg {w : World} (va : Value) (ha : TrmList w va) (vb : Value) (hb : TrmList w vb) (sg : Int) (wsg : (Lit.int .u8 sg).wf = true) (hL : LaidT w) : Calls Tryd.prog 8 #[va, vb, .int .u8 sg] w fun e w' => e = .returned (.bool true) ∧ Kept w w' := by
  obtain ⟨la, h1, hla, _⟩ := ha
  obtain ⟨lb, h2, hlb, _⟩ := hb
  have h3 := u8_bounds wsg
  unfold maxLen at hla hlb
  exact exprJoins_walk sg h1 h2 (by omega) (by omega) h3.1 (by omega) hL

end Go.Proofs.YtdapdpmplbifdaaDoor
