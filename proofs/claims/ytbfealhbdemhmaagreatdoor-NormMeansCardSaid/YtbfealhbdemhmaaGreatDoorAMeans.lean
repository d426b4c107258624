/- Contracts and lemmas: AMeans -/
import Derived.Test.YtbfealhbdemhmaaGreatDoorWM
import Derived.Test.YtbfealhbdemhmaaGreatDoorN6
namespace Go.Proofs.YtbfealhbdemhmaaGreatDoor
set_option linter.unusedVariables false
set_option linter.unusedSimpArgs false
open Go.RowKit Go.ChangeShapes Go.WideShapes
set_option maxRecDepth 20000
theorem normMeans_arg {w : World} (va : Value) (ha : Atm.Rows6At w va) (vb : Value) (hb : TrmList w vb) (vc : Value) (hc : TrmList w vc) (hL : LaidT w) : Calls Tryz.prog 7 #[va, vb, vc] w fun e w' => e = .returned (.bool true) ∧ Kept w w' := by
  obtain ⟨l, h1, hl, _⟩ := hb
  obtain ⟨m, h2, hm, _⟩ := hc
  unfold maxLen at hl hm
  exact normmeans_walk ha h1 h2 (by omega) (by omega) (norm6_of hL)

end Go.Proofs.YtbfealhbdemhmaaGreatDoor
