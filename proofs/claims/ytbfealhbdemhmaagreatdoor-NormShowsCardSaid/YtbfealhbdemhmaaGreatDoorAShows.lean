/- Contracts and lemmas: AShows -/
import Derived.Test.YtbfealhbdemhmaaGreatDoorWS
import Derived.Test.YtbfealhbdemhmaaGreatDoorN6
namespace Go.Proofs.YtbfealhbdemhmaaGreatDoor
set_option linter.unusedVariables false
set_option linter.unusedSimpArgs false
open Go.RowKit Go.ChangeShapes Go.WideShapes
set_option maxRecDepth 20000
theorem normShows_arg {w : World} (va : Value) (ha : Atm.Rows6At w va) (vb : Value) (hb : SetAt w vb) (hL : LaidT w) : Calls Tryz.prog 5 #[va, vb] w fun e w' => e = .returned (.bool true) ∧ Kept w w' := by
  obtain ⟨l, h1, _, hl⟩ := hb
  unfold maxLen at hl
  exact normshows_walk ha h1 (by omega) (norm6_of hL)

end Go.Proofs.YtbfealhbdemhmaaGreatDoor
