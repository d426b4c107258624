/-
  No cell of these rows narrows 'for every input' (looked for: loops, veiled, ifaces, maps, wideKeys, modest, calm, conditions, laid).
  DERIVED. THE GIVEN ROWS OF THIS SEAT. 6 by the template 'for every input the law returns true; each argument reads behind the call as it read before'; 0 by the template 'total and deterministic' (their statements: YtdapklamemalgaaTotals.lean).
  GIVEN WITH THE SEED: the statements are not yours to turn. If you find one false, say at which input.
  Laid BY PROGRAM, IN A SANDBOX (cutbox-rows.mjs): the forced cells as the released guide's own fill.sh prints them over the translation 75aa96d6d069da98… (all of the seat's roots in one cut). By AI agents, Wed Nov 11 2026. No macro, syntax, notation, axiom, sorry.
-/
import Derived.Test.YtdapklamemalgaaChecked
import GoSem.Claim
import GoSem.ClaimJoined
import GoSem.ClaimMapViews
import Derived.JoinedTies
import Derived.KernelRfl
namespace Go.Proofs.Ytdapklamemalgaa
/- THE CELL 'sum', in the pinned program and in every row, IS THE sha256 OF THE DUMP (.gsa) THAT YtdapklamemalgaaProg.lean LOADS. Nothing in Lean hashes anything: it is a label: what it is worth is what the hold of that sum in a sandbox is worth. -/
noncomputable def Try.pinned : Pinned := { name := "ytdapklamemalgaa", sum := "75aa96d6d069da9896849caaacb9ad13febcd10d1a7ca59f1626c730424ac592", checked := Try.checked }
namespace Rows
def none {H : Type} : Left H := { results := [], args := [] }

/-- 'attorneylaw03.SetMakes': WHATEVER THE INPUT: true; the input reads as it did. -/
def setMakesSpec : ChangeSpec := { name := "setMakes", fn := fun _ => fun
  | [d1, d2, d3] => { results := [.lit (.bool true)], args := [d1, d2, d3] }
  | _ => none }
def setMakesRow : OpenClaim := { program := "ytdapklamemalgaa", sum := "75aa96d6d069da9896849caaacb9ad13febcd10d1a7ca59f1626c730424ac592", func := "attorney/attorneylaw03.SetMakes", spec := "setMakes", unfollowed := true, recurses := true, apart := false }
def SetMakesSaid : Prop := setMakesRow.holds Try.pinned (OpenSpec.ofChange setMakesSpec)

/-- ITS FALSE NEIGHBOUR: 'it returns false'. Refute it at one input. -/
def setMakesWrong : ChangeSpec := { name := "setMakes", fn := fun _ => fun
  | [d1, d2, d3] => { results := [.lit (.bool false)], args := [d1, d2, d3] }
  | _ => none }
def SetMakesWrongFalsely : Prop := setMakesRow.holds Try.pinned (OpenSpec.ofChange setMakesWrong)

/-- 'attorneylaw03.SetTells': WHATEVER THE INPUT: true; the input reads as it did. -/
def setTellsSpec : ChangeSpec := { name := "setTells", fn := fun _ => fun
  | [d1, d2, d3] => { results := [.lit (.bool true)], args := [d1, d2, d3] }
  | _ => none }
def setTellsRow : OpenClaim := { program := "ytdapklamemalgaa", sum := "75aa96d6d069da9896849caaacb9ad13febcd10d1a7ca59f1626c730424ac592", func := "attorney/attorneylaw03.SetTells", spec := "setTells", unfollowed := true, recurses := true, apart := false }
def SetTellsSaid : Prop := setTellsRow.holds Try.pinned (OpenSpec.ofChange setTellsSpec)

/-- ITS FALSE NEIGHBOUR: 'it returns false'. Refute it at one input. -/
def setTellsWrong : ChangeSpec := { name := "setTells", fn := fun _ => fun
  | [d1, d2, d3] => { results := [.lit (.bool false)], args := [d1, d2, d3] }
  | _ => none }
def SetTellsWrongFalsely : Prop := setTellsRow.holds Try.pinned (OpenSpec.ofChange setTellsWrong)

/-- 'attorneylaw03.SetAnd': WHATEVER THE INPUT: true; the input reads as it did. -/
def setAndSpec : ChangeSpec := { name := "setAnd", fn := fun _ => fun
  | [d1, d2, d3] => { results := [.lit (.bool true)], args := [d1, d2, d3] }
  | _ => none }
def setAndRow : OpenClaim := { program := "ytdapklamemalgaa", sum := "75aa96d6d069da9896849caaacb9ad13febcd10d1a7ca59f1626c730424ac592", func := "attorney/attorneylaw03.SetAnd", spec := "setAnd", unfollowed := true, recurses := true, apart := false }
def SetAndSaid : Prop := setAndRow.holds Try.pinned (OpenSpec.ofChange setAndSpec)

/-- ITS FALSE NEIGHBOUR: 'it returns false'. Refute it at one input. -/
def setAndWrong : ChangeSpec := { name := "setAnd", fn := fun _ => fun
  | [d1, d2, d3] => { results := [.lit (.bool false)], args := [d1, d2, d3] }
  | _ => none }
def SetAndWrongFalsely : Prop := setAndRow.holds Try.pinned (OpenSpec.ofChange setAndWrong)

/-- 'attorneylaw03.SetQuote': WHATEVER THE INPUT: true; the input reads as it did. -/
def setQuoteSpec : ChangeSpec := { name := "setQuote", fn := fun _ => fun
  | [d1, d2, d3] => { results := [.lit (.bool true)], args := [d1, d2, d3] }
  | _ => none }
def setQuoteRow : OpenClaim := { program := "ytdapklamemalgaa", sum := "75aa96d6d069da9896849caaacb9ad13febcd10d1a7ca59f1626c730424ac592", func := "attorney/attorneylaw03.SetQuote", spec := "setQuote", unfollowed := true, recurses := true, apart := false }
def SetQuoteSaid : Prop := setQuoteRow.holds Try.pinned (OpenSpec.ofChange setQuoteSpec)

/-- ITS FALSE NEIGHBOUR: 'it returns false'. Refute it at one input. -/
def setQuoteWrong : ChangeSpec := { name := "setQuote", fn := fun _ => fun
  | [d1, d2, d3] => { results := [.lit (.bool false)], args := [d1, d2, d3] }
  | _ => none }
def SetQuoteWrongFalsely : Prop := setQuoteRow.holds Try.pinned (OpenSpec.ofChange setQuoteWrong)

/-- 'attorneylaw03.SetFor': WHATEVER THE INPUT: true; the input reads as it did. -/
def setForSpec : ChangeSpec := { name := "setFor", fn := fun _ => fun
  | [d1, d2] => { results := [.lit (.bool true)], args := [d1, d2] }
  | _ => none }
def setForRow : OpenClaim := { program := "ytdapklamemalgaa", sum := "75aa96d6d069da9896849caaacb9ad13febcd10d1a7ca59f1626c730424ac592", func := "attorney/attorneylaw03.SetFor", spec := "setFor", unfollowed := true, recurses := true, apart := false }
def SetForSaid : Prop := setForRow.holds Try.pinned (OpenSpec.ofChange setForSpec)

/-- ITS FALSE NEIGHBOUR: 'it returns false'. Refute it at one input. -/
def setForWrong : ChangeSpec := { name := "setFor", fn := fun _ => fun
  | [d1, d2] => { results := [.lit (.bool false)], args := [d1, d2] }
  | _ => none }
def SetForWrongFalsely : Prop := setForRow.holds Try.pinned (OpenSpec.ofChange setForWrong)

/-- 'attorneylaw03.SetOrder': WHATEVER THE INPUT: true; the input reads as it did. -/
def setOrderSpec : ChangeSpec := { name := "setOrder", fn := fun _ => fun
  | [d1, d2] => { results := [.lit (.bool true)], args := [d1, d2] }
  | _ => none }
def setOrderRow : OpenClaim := { program := "ytdapklamemalgaa", sum := "75aa96d6d069da9896849caaacb9ad13febcd10d1a7ca59f1626c730424ac592", func := "attorney/attorneylaw03.SetOrder", spec := "setOrder", unfollowed := true, recurses := true, apart := false }
def SetOrderSaid : Prop := setOrderRow.holds Try.pinned (OpenSpec.ofChange setOrderSpec)

/-- ITS FALSE NEIGHBOUR: 'it returns false'. Refute it at one input. -/
def setOrderWrong : ChangeSpec := { name := "setOrder", fn := fun _ => fun
  | [d1, d2] => { results := [.lit (.bool false)], args := [d1, d2] }
  | _ => none }
def SetOrderWrongFalsely : Prop := setOrderRow.holds Try.pinned (OpenSpec.ofChange setOrderWrong)

/- THE SECOND FORM. 'bulk': how many values and letters a reading holds, each counted each time it is reached (what is shared counts as often as it is met; a slice's spare places count too). A statement '..UptoSaid' is the law's where the arguments, and the package variables that the reading takes, are together of bulk at most 1048576: NARROWER than '..Said'. Prove '..Said' where nothing that the law and all that it calls make is longer than what came in: it says more and counts as full. Else prove '..UptoSaid'. A law counts once. -/
mutual
def uptoBulk {H : Type} : DataW H → Nat
  | .lit (.string bytes) => bytes.length + 1
  | .lit _ => 1
  | .nil => 1
  | .ptr d => uptoBulk d + 1
  | .slice elems spare => uptoBulkAll elems + uptoBulkAll spare + 1
  | .agg parts => uptoBulkAll parts + 1
  | .iface _ d => uptoBulk d + 1
  | .map entries => uptoBulkEntries entries + 1
  | .held _ => 1
def uptoBulkAll {H : Type} : List (DataW H) → Nat
  | [] => 0
  | d :: r => uptoBulk d + uptoBulkAll r
def uptoBulkEntries {H : Type} : List (Lit × DataW H) → Nat
  | [] => 0
  | x :: r => uptoBulkEntry x + uptoBulkEntries r
def uptoBulkEntry {H : Type} : Lit × DataW H → Nat
  | (.string bytes, d) => bytes.length + uptoBulk d + 1
  | (_, d) => uptoBulk d + 1
 end
def uptoSmall : (H : Type) → List (DataW H) → Bool := fun _ ds => decide (uptoBulkAll ds ≤ 1048576)
def OpenSpec.upto (s : _root_.Go.ChangeSpec) : _root_.Go.OpenSpec := { _root_.Go.OpenSpec.ofChange s with cond := some uptoSmall }

/-- 'attorneylaw03.SetMakes', WHERE WHAT IT READS IS OF BULK AT MOST 1048576: true; the input reads as it did. -/
def setMakesUptoRow : OpenClaim := { program := "ytdapklamemalgaa", sum := "75aa96d6d069da9896849caaacb9ad13febcd10d1a7ca59f1626c730424ac592", func := "attorney/attorneylaw03.SetMakes", spec := "setMakes", unfollowed := true, recurses := true, apart := false, narrowed := true }
def SetMakesUptoSaid : Prop := setMakesUptoRow.holds Try.pinned (OpenSpec.upto setMakesSpec)

/-- 'attorneylaw03.SetTells', WHERE WHAT IT READS IS OF BULK AT MOST 1048576: true; the input reads as it did. -/
def setTellsUptoRow : OpenClaim := { program := "ytdapklamemalgaa", sum := "75aa96d6d069da9896849caaacb9ad13febcd10d1a7ca59f1626c730424ac592", func := "attorney/attorneylaw03.SetTells", spec := "setTells", unfollowed := true, recurses := true, apart := false, narrowed := true }
def SetTellsUptoSaid : Prop := setTellsUptoRow.holds Try.pinned (OpenSpec.upto setTellsSpec)

/-- 'attorneylaw03.SetAnd', WHERE WHAT IT READS IS OF BULK AT MOST 1048576: true; the input reads as it did. -/
def setAndUptoRow : OpenClaim := { program := "ytdapklamemalgaa", sum := "75aa96d6d069da9896849caaacb9ad13febcd10d1a7ca59f1626c730424ac592", func := "attorney/attorneylaw03.SetAnd", spec := "setAnd", unfollowed := true, recurses := true, apart := false, narrowed := true }
def SetAndUptoSaid : Prop := setAndUptoRow.holds Try.pinned (OpenSpec.upto setAndSpec)

/-- 'attorneylaw03.SetQuote', WHERE WHAT IT READS IS OF BULK AT MOST 1048576: true; the input reads as it did. -/
def setQuoteUptoRow : OpenClaim := { program := "ytdapklamemalgaa", sum := "75aa96d6d069da9896849caaacb9ad13febcd10d1a7ca59f1626c730424ac592", func := "attorney/attorneylaw03.SetQuote", spec := "setQuote", unfollowed := true, recurses := true, apart := false, narrowed := true }
def SetQuoteUptoSaid : Prop := setQuoteUptoRow.holds Try.pinned (OpenSpec.upto setQuoteSpec)

/-- 'attorneylaw03.SetFor', WHERE WHAT IT READS IS OF BULK AT MOST 1048576: true; the input reads as it did. -/
def setForUptoRow : OpenClaim := { program := "ytdapklamemalgaa", sum := "75aa96d6d069da9896849caaacb9ad13febcd10d1a7ca59f1626c730424ac592", func := "attorney/attorneylaw03.SetFor", spec := "setFor", unfollowed := true, recurses := true, apart := false, narrowed := true }
def SetForUptoSaid : Prop := setForUptoRow.holds Try.pinned (OpenSpec.upto setForSpec)

/-- 'attorneylaw03.SetOrder', WHERE WHAT IT READS IS OF BULK AT MOST 1048576: true; the input reads as it did. -/
def setOrderUptoRow : OpenClaim := { program := "ytdapklamemalgaa", sum := "75aa96d6d069da9896849caaacb9ad13febcd10d1a7ca59f1626c730424ac592", func := "attorney/attorneylaw03.SetOrder", spec := "setOrder", unfollowed := true, recurses := true, apart := false, narrowed := true }
def SetOrderUptoSaid : Prop := setOrderUptoRow.holds Try.pinned (OpenSpec.upto setOrderSpec)

end Rows
end Go.Proofs.Ytdapklamemalgaa
