/- Contracts and lemmas: AParens -/
import Derived.Test.YtbfealhbdemhmaaGreatDoorWP
import Derived.Test.YtbfealhbdemhmaaGreatDoorN6
namespace Go.Proofs.YtbfealhbdemhmaaGreatDoor
set_option linter.unusedVariables false
set_option linter.unusedSimpArgs false
open Go.RowKit Go.ChangeShapes Go.WideShapes
set_option maxRecDepth 20000
theorem normParens_arg {w : World} (va : Value) (ha : Atm.Rows6At w va) (vb : Value) (hb : TrmList w vb) (bars : Bool) (a : Int) (wa : (Lit.int .u8 a).wf = true) (hL : LaidT w) : Calls Tryz.prog 8 #[va, vb, .bool bars, .int .u8 a] w fun e w' => e = .returned (.bool true) ∧ Kept w w' := by
  obtain ⟨l, h1, hl, _⟩ := hb
  have h3 : 0 ≤ a ∧ a ≤ 255 := by
    simp [Lit.wf, IntKind.min, IntKind.max, IntKind.signed, IntKind.bits] at wa; exact wa
  unfold maxLen at hl
  exact normparens_walk ha h1 (by omega) bars a h3.1 h3.2 (norm6_of hL)

end Go.Proofs.YtbfealhbdemhmaaGreatDoor
