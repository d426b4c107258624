/- Contracts and lemmas: AReads -/
import Derived.Test.YtbfealhbdemhmaaGreatDoorWR
import Derived.Test.YtbfealhbdemhmaaGreatDoorN6
namespace Go.Proofs.YtbfealhbdemhmaaGreatDoor
set_option linter.unusedVariables false
set_option linter.unusedSimpArgs false
open Go.RowKit Go.ChangeShapes Go.WideShapes
set_option maxRecDepth 20000
theorem normReads_arg {w : World} (va : Value) (ha : Atm.Rows6At w va) (s : ByteArray) (ws : s.size ≤ maxLen) (hL : LaidT w) : Calls Tryz.prog 4 #[va, .string s] w fun e w' => e = .returned (.bool true) ∧ Kept w w' :=
  normreads_walk ha s (norm6_of hL)

end Go.Proofs.YtbfealhbdemhmaaGreatDoor
