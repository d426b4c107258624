/- Contracts and lemmas: N6 -/
import Derived.Test.YtbfealhbdemhmaaGreatDoorSw
import Derived.Test.YtbfealhbdemhmaaGreatDoorAw
import Derived.Test.YtbfealhbdemhmaaGreatDoorGs
namespace Go.Proofs.YtbfealhbdemhmaaGreatDoor
set_option linter.unusedVariables false
set_option linter.unusedSimpArgs false
open Go.RowKit Go.ChangeShapes Go.WideShapes
set_option maxRecDepth 20000
/-- what the program's three functions answer wherever the two tables lie -/
theorem norm6_of {w : World} (hL : LaidT w) : Norm6 w where
  read := fun W hW F B L s hT hs => kread6_any hT s hs (hL.kept hW)
  show6 := fun W hW F B L v s hT hr hl hs => kshow6_any hT (hL.kept hW) hr hl hs
  run := fun W hW F B L v l hT hr hl hs => krun6_any hT hr hl hs (hL.kept hW)
  none6 := fun W hW s hs => kread6_none s W

end Go.Proofs.YtbfealhbdemhmaaGreatDoor
