/- Contracts and lemmas: ARuns -/
import Derived.Test.YtbfealhbdemhmaaGreatDoorWU
import Derived.Test.YtbfealhbdemhmaaGreatDoorN6
namespace Go.Proofs.YtbfealhbdemhmaaGreatDoor
set_option linter.unusedVariables false
set_option linter.unusedSimpArgs false
open Go.RowKit Go.ChangeShapes Go.WideShapes
set_option maxRecDepth 20000
theorem normRuns_arg {w : World} (va : Value) (ha : Atm.Rows6At w va) (vb : Value) (hb : TrmList w vb) (hL : LaidT w) : Calls Tryz.prog 3 #[va, vb] w fun e w' => e = .returned (.bool true) ∧ Kept w w' := by
  obtain ⟨l, h1, hl, _⟩ := hb
  unfold maxLen at hl
  exact normruns_walk ha h1 (by omega) (norm6_of hL)

end Go.Proofs.YtbfealhbdemhmaaGreatDoor
