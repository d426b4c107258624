/- Contracts and lemmas: ABack -/
import Derived.Test.YtbfealhbdemhmaaGreatDoorWB
import Derived.Test.YtbfealhbdemhmaaGreatDoorN6
namespace Go.Proofs.YtbfealhbdemhmaaGreatDoor
set_option linter.unusedVariables false
set_option linter.unusedSimpArgs false
open Go.RowKit Go.ChangeShapes Go.WideShapes
set_option maxRecDepth 20000
theorem normBack_arg {w : World} (va : Value) (ha : Atm.Rows6At w va) (vb : Value) (hb : SetAt w vb) (s : ByteArray) (ws : s.size ≤ maxLen) (hL : LaidT w) : Calls Tryz.prog 6 #[va, vb, .string s] w fun e w' => e = .returned (.bool true) ∧ Kept w w' := by
  obtain ⟨l, h1, _, hl⟩ := hb
  unfold maxLen at hl
  exact normback_walk ha h1 (by omega) s (norm6_of hL)

end Go.Proofs.YtbfealhbdemhmaaGreatDoor
