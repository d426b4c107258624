/-
  NARROWER THAN 'FOR EVERY INPUT', by the rows' own cells (each row's printed sentence says how): ExprParses: laid · ExprReads: laid · ExprWrites: laid · ExprBack: laid · ExprFew: laid · ExprJoins: laid · ExprOpen: laid.
  DERIVED. THE GIVEN ROWS OF THIS SEAT. 7 by the template 'for every input the law returns true; each argument reads behind the call as it read before'; 0 by the template 'total and deterministic' (their statements: YtdapdpmplbifdaaDoorTotals.lean).
  GIVEN WITH THE SEED: the statements are not yours to turn. If you find one false, say at which input.
  Laid BY PROGRAM, IN A SANDBOX (cutbox-rows.mjs): the forced cells as the released guide's own fill.sh prints them over the translation c2c7adab6f7b41e7… (all of the seat's roots in one cut). By AI agents, Wed Nov 11 2026. No macro, syntax, notation, axiom, sorry.
-/
import Derived.Test.YtdapdpmplbifdaaDoorChecked
import GoSem.Claim
import GoSem.ClaimJoined
import GoSem.ClaimMapViews
import Derived.JoinedTies
import Derived.KernelRfl
namespace Go.Proofs.YtdapdpmplbifdaaDoor
/- THE CELL 'sum', in the pinned program and in every row, IS THE sha256 OF THE DUMP (.gsa) THAT YtdapdpmplbifdaaDoorProg.lean LOADS. Nothing in Lean hashes anything: it is a label: what it is worth is what the hold of that sum in a sandbox is worth. -/
noncomputable def Tryd.pinned : Pinned := { name := "ytdapdpmplbifdaadoor", sum := "c2c7adab6f7b41e72525eedebd5eb763dd896b8bda123ea16047d4a5cb309c0c", checked := Tryd.checked }
namespace Rows
def none {H : Type} : Left H := { results := [], args := [] }

/- WHAT THE LISTED PACKAGE-LEVEL VARIABLES READ AS WHEN THE CALL BEGINS. Each datum BY PROGRAM (the guide's laid-datum.mjs) off the statement by which the dump's own 'gosem.cut.vars' lays the variable. In a bare row this is a premise. The card (YtdapdpmplbifdaaDoorCards.lean) ties it to the program's text. -/
def laid_attorney_token_prefixes {H : Type} : DataW H := .agg [.lit (.string []), .lit (.string [107, 101, 121, 58]), .lit (.string [99, 104, 97, 110, 58]), .lit (.string []), .lit (.string [103, 114, 111, 117, 112, 58]), .lit (.string [114, 111, 108, 101, 58])]
def laid_attorney_token_fixed {H : Type} : DataW H := .agg [.lit (.string []), .lit (.string []), .lit (.string [97, 110, 100]), .lit (.string [102, 111, 114]), .lit (.string [124]), .lit (.string [97, 115]), .lit (.string [40]), .lit (.string [41])]

/-- 'attorneylaw05.ExprParses': WHATEVER THE INPUT: true; the input reads as it did. -/
def exprParsesSpec : ChangeSpec := { name := "exprParses", fn := fun _ => fun
  | [d] => { results := [.lit (.bool true)], args := [d] }
  | _ => none }
def exprParsesRow : OpenClaim := { program := "ytdapdpmplbifdaadoor", sum := "c2c7adab6f7b41e72525eedebd5eb763dd896b8bda123ea16047d4a5cb309c0c", func := "attorney/attorneylaw05.ExprParses", spec := "exprParses", inPlace := ["internal/bytealg.IndexByteString", "internal/bytealg.IndexString", "internal/abi.NoEscape"], unfollowed := true, recurses := true, named := ["attorney/token.prefixes", "attorney/token.fixed", "internal/bytealg.MaxLen"], apart := false, laid := [("attorney/token.prefixes", laid_attorney_token_prefixes), ("attorney/token.fixed", laid_attorney_token_fixed)] }
def ExprParsesSaid : Prop := exprParsesRow.holds Tryd.pinned (OpenSpec.ofChange exprParsesSpec)

/-- ITS FALSE NEIGHBOUR: 'it returns false'. Refute it at one input. -/
def exprParsesWrong : ChangeSpec := { name := "exprParses", fn := fun _ => fun
  | [d] => { results := [.lit (.bool false)], args := [d] }
  | _ => none }
def ExprParsesWrongFalsely : Prop := exprParsesRow.holds Tryd.pinned (OpenSpec.ofChange exprParsesWrong)

/-- 'attorneylaw05.ExprReads': WHATEVER THE INPUT: true; the input reads as it did. -/
def exprReadsSpec : ChangeSpec := { name := "exprReads", fn := fun _ => fun
  | [d] => { results := [.lit (.bool true)], args := [d] }
  | _ => none }
def exprReadsRow : OpenClaim := { program := "ytdapdpmplbifdaadoor", sum := "c2c7adab6f7b41e72525eedebd5eb763dd896b8bda123ea16047d4a5cb309c0c", func := "attorney/attorneylaw05.ExprReads", spec := "exprReads", inPlace := ["internal/bytealg.IndexByteString", "internal/bytealg.IndexString", "internal/abi.NoEscape"], unfollowed := true, recurses := true, named := ["attorney/token.prefixes", "attorney/token.fixed", "internal/bytealg.MaxLen"], apart := false, laid := [("attorney/token.prefixes", laid_attorney_token_prefixes), ("attorney/token.fixed", laid_attorney_token_fixed)] }
def ExprReadsSaid : Prop := exprReadsRow.holds Tryd.pinned (OpenSpec.ofChange exprReadsSpec)

/-- ITS FALSE NEIGHBOUR: 'it returns false'. Refute it at one input. -/
def exprReadsWrong : ChangeSpec := { name := "exprReads", fn := fun _ => fun
  | [d] => { results := [.lit (.bool false)], args := [d] }
  | _ => none }
def ExprReadsWrongFalsely : Prop := exprReadsRow.holds Tryd.pinned (OpenSpec.ofChange exprReadsWrong)

/-- 'attorneylaw05.ExprWrites': WHATEVER THE INPUT: true; the input reads as it did. -/
def exprWritesSpec : ChangeSpec := { name := "exprWrites", fn := fun _ => fun
  | [d] => { results := [.lit (.bool true)], args := [d] }
  | _ => none }
def exprWritesRow : OpenClaim := { program := "ytdapdpmplbifdaadoor", sum := "c2c7adab6f7b41e72525eedebd5eb763dd896b8bda123ea16047d4a5cb309c0c", func := "attorney/attorneylaw05.ExprWrites", spec := "exprWrites", inPlace := ["internal/bytealg.IndexByteString", "internal/bytealg.IndexString", "internal/abi.NoEscape"], unfollowed := true, recurses := true, named := ["attorney/token.prefixes", "attorney/token.fixed", "internal/bytealg.MaxLen"], apart := false, laid := [("attorney/token.prefixes", laid_attorney_token_prefixes), ("attorney/token.fixed", laid_attorney_token_fixed)] }
def ExprWritesSaid : Prop := exprWritesRow.holds Tryd.pinned (OpenSpec.ofChange exprWritesSpec)

/-- ITS FALSE NEIGHBOUR: 'it returns false'. Refute it at one input. -/
def exprWritesWrong : ChangeSpec := { name := "exprWrites", fn := fun _ => fun
  | [d] => { results := [.lit (.bool false)], args := [d] }
  | _ => none }
def ExprWritesWrongFalsely : Prop := exprWritesRow.holds Tryd.pinned (OpenSpec.ofChange exprWritesWrong)

/-- 'attorneylaw05.ExprBack': WHATEVER THE INPUT: true; the input reads as it did. -/
def exprBackSpec : ChangeSpec := { name := "exprBack", fn := fun _ => fun
  | [d1, d2] => { results := [.lit (.bool true)], args := [d1, d2] }
  | _ => none }
def exprBackRow : OpenClaim := { program := "ytdapdpmplbifdaadoor", sum := "c2c7adab6f7b41e72525eedebd5eb763dd896b8bda123ea16047d4a5cb309c0c", func := "attorney/attorneylaw05.ExprBack", spec := "exprBack", inPlace := ["internal/bytealg.IndexByteString", "internal/bytealg.IndexString", "internal/abi.NoEscape"], unfollowed := true, recurses := true, named := ["attorney/token.prefixes", "attorney/token.fixed", "internal/bytealg.MaxLen"], apart := false, laid := [("attorney/token.prefixes", laid_attorney_token_prefixes), ("attorney/token.fixed", laid_attorney_token_fixed)] }
def ExprBackSaid : Prop := exprBackRow.holds Tryd.pinned (OpenSpec.ofChange exprBackSpec)

/-- ITS FALSE NEIGHBOUR: 'it returns false'. Refute it at one input. -/
def exprBackWrong : ChangeSpec := { name := "exprBack", fn := fun _ => fun
  | [d1, d2] => { results := [.lit (.bool false)], args := [d1, d2] }
  | _ => none }
def ExprBackWrongFalsely : Prop := exprBackRow.holds Tryd.pinned (OpenSpec.ofChange exprBackWrong)

/-- 'attorneylaw05.ExprFew': WHATEVER THE INPUT: true; the input reads as it did. -/
def exprFewSpec : ChangeSpec := { name := "exprFew", fn := fun _ => fun
  | [d] => { results := [.lit (.bool true)], args := [d] }
  | _ => none }
def exprFewRow : OpenClaim := { program := "ytdapdpmplbifdaadoor", sum := "c2c7adab6f7b41e72525eedebd5eb763dd896b8bda123ea16047d4a5cb309c0c", func := "attorney/attorneylaw05.ExprFew", spec := "exprFew", inPlace := ["internal/bytealg.IndexByteString", "internal/bytealg.IndexString", "internal/abi.NoEscape"], unfollowed := true, recurses := true, named := ["attorney/token.prefixes", "attorney/token.fixed", "internal/bytealg.MaxLen"], apart := false, laid := [("attorney/token.prefixes", laid_attorney_token_prefixes), ("attorney/token.fixed", laid_attorney_token_fixed)] }
def ExprFewSaid : Prop := exprFewRow.holds Tryd.pinned (OpenSpec.ofChange exprFewSpec)

/-- ITS FALSE NEIGHBOUR: 'it returns false'. Refute it at one input. -/
def exprFewWrong : ChangeSpec := { name := "exprFew", fn := fun _ => fun
  | [d] => { results := [.lit (.bool false)], args := [d] }
  | _ => none }
def ExprFewWrongFalsely : Prop := exprFewRow.holds Tryd.pinned (OpenSpec.ofChange exprFewWrong)

/-- 'attorneylaw05.ExprJoins': WHATEVER THE INPUT: true; the input reads as it did. -/
def exprJoinsSpec : ChangeSpec := { name := "exprJoins", fn := fun _ => fun
  | [d1, d2, d3] => { results := [.lit (.bool true)], args := [d1, d2, d3] }
  | _ => none }
def exprJoinsRow : OpenClaim := { program := "ytdapdpmplbifdaadoor", sum := "c2c7adab6f7b41e72525eedebd5eb763dd896b8bda123ea16047d4a5cb309c0c", func := "attorney/attorneylaw05.ExprJoins", spec := "exprJoins", inPlace := ["internal/bytealg.IndexByteString", "internal/bytealg.IndexString", "internal/abi.NoEscape"], unfollowed := true, recurses := true, named := ["attorney/token.prefixes", "attorney/token.fixed", "internal/bytealg.MaxLen"], apart := false, laid := [("attorney/token.prefixes", laid_attorney_token_prefixes), ("attorney/token.fixed", laid_attorney_token_fixed)] }
def ExprJoinsSaid : Prop := exprJoinsRow.holds Tryd.pinned (OpenSpec.ofChange exprJoinsSpec)

/-- ITS FALSE NEIGHBOUR: 'it returns false'. Refute it at one input. -/
def exprJoinsWrong : ChangeSpec := { name := "exprJoins", fn := fun _ => fun
  | [d1, d2, d3] => { results := [.lit (.bool false)], args := [d1, d2, d3] }
  | _ => none }
def ExprJoinsWrongFalsely : Prop := exprJoinsRow.holds Tryd.pinned (OpenSpec.ofChange exprJoinsWrong)

/-- 'attorneylaw05.ExprOpen': WHATEVER THE INPUT: true; the input reads as it did. -/
def exprOpenSpec : ChangeSpec := { name := "exprOpen", fn := fun _ => fun
  | [d] => { results := [.lit (.bool true)], args := [d] }
  | _ => none }
def exprOpenRow : OpenClaim := { program := "ytdapdpmplbifdaadoor", sum := "c2c7adab6f7b41e72525eedebd5eb763dd896b8bda123ea16047d4a5cb309c0c", func := "attorney/attorneylaw05.ExprOpen", spec := "exprOpen", inPlace := ["internal/bytealg.IndexByteString", "internal/bytealg.IndexString", "internal/abi.NoEscape"], unfollowed := true, recurses := true, named := ["attorney/token.prefixes", "attorney/token.fixed", "internal/bytealg.MaxLen"], apart := false, laid := [("attorney/token.prefixes", laid_attorney_token_prefixes), ("attorney/token.fixed", laid_attorney_token_fixed)] }
def ExprOpenSaid : Prop := exprOpenRow.holds Tryd.pinned (OpenSpec.ofChange exprOpenSpec)

/-- ITS FALSE NEIGHBOUR: 'it returns false'. Refute it at one input. -/
def exprOpenWrong : ChangeSpec := { name := "exprOpen", fn := fun _ => fun
  | [d] => { results := [.lit (.bool false)], args := [d] }
  | _ => none }
def ExprOpenWrongFalsely : Prop := exprOpenRow.holds Tryd.pinned (OpenSpec.ofChange exprOpenWrong)

/- THE SECOND FORM. 'bulk': how many values and letters a reading holds, each counted each time it is reached (what is shared counts as often as it is met; a slice's spare places count too). A statement '..UptoSaid' is the law's where the arguments, and the package variables that the reading takes, are together of bulk at most 1048576: NARROWER than '..Said'. Prove '..Said' where nothing that the law and all that it calls make is longer than what came in: it says more and counts as full. Else prove '..UptoSaid'. A law counts once. -/
mutual
def uptoBulk {H : Type} : DataW H → Nat
  | .lit (.string bytes) => bytes.length + 1
  | .lit _ => 1
  | .nil => 1
  | .ptr d => uptoBulk d + 1
  | .slice elems spare => uptoBulkAll elems + uptoBulkAll spare + 1
  | .agg parts => uptoBulkAll parts + 1
  | .iface _ d => uptoBulk d + 1
  | .map entries => uptoBulkEntries entries + 1
  | .held _ => 1
def uptoBulkAll {H : Type} : List (DataW H) → Nat
  | [] => 0
  | d :: r => uptoBulk d + uptoBulkAll r
def uptoBulkEntries {H : Type} : List (Lit × DataW H) → Nat
  | [] => 0
  | x :: r => uptoBulkEntry x + uptoBulkEntries r
def uptoBulkEntry {H : Type} : Lit × DataW H → Nat
  | (.string bytes, d) => bytes.length + uptoBulk d + 1
  | (_, d) => uptoBulk d + 1
 end
def uptoSmall : (H : Type) → List (DataW H) → Bool := fun _ ds => decide (uptoBulkAll ds ≤ 1048576)
def OpenSpec.upto (s : _root_.Go.ChangeSpec) : _root_.Go.OpenSpec := { _root_.Go.OpenSpec.ofChange s with cond := some uptoSmall }

/-- 'attorneylaw05.ExprParses', WHERE WHAT IT READS IS OF BULK AT MOST 1048576: true; the input reads as it did. -/
def exprParsesUptoRow : OpenClaim := { program := "ytdapdpmplbifdaadoor", sum := "c2c7adab6f7b41e72525eedebd5eb763dd896b8bda123ea16047d4a5cb309c0c", func := "attorney/attorneylaw05.ExprParses", spec := "exprParses", inPlace := ["internal/bytealg.IndexByteString", "internal/bytealg.IndexString", "internal/abi.NoEscape"], unfollowed := true, recurses := true, named := ["attorney/token.prefixes", "attorney/token.fixed", "internal/bytealg.MaxLen"], apart := false, laid := [("attorney/token.prefixes", laid_attorney_token_prefixes), ("attorney/token.fixed", laid_attorney_token_fixed)], narrowed := true }
def ExprParsesUptoSaid : Prop := exprParsesUptoRow.holds Tryd.pinned (OpenSpec.upto exprParsesSpec)

/-- 'attorneylaw05.ExprReads', WHERE WHAT IT READS IS OF BULK AT MOST 1048576: true; the input reads as it did. -/
def exprReadsUptoRow : OpenClaim := { program := "ytdapdpmplbifdaadoor", sum := "c2c7adab6f7b41e72525eedebd5eb763dd896b8bda123ea16047d4a5cb309c0c", func := "attorney/attorneylaw05.ExprReads", spec := "exprReads", inPlace := ["internal/bytealg.IndexByteString", "internal/bytealg.IndexString", "internal/abi.NoEscape"], unfollowed := true, recurses := true, named := ["attorney/token.prefixes", "attorney/token.fixed", "internal/bytealg.MaxLen"], apart := false, laid := [("attorney/token.prefixes", laid_attorney_token_prefixes), ("attorney/token.fixed", laid_attorney_token_fixed)], narrowed := true }
def ExprReadsUptoSaid : Prop := exprReadsUptoRow.holds Tryd.pinned (OpenSpec.upto exprReadsSpec)

/-- 'attorneylaw05.ExprWrites', WHERE WHAT IT READS IS OF BULK AT MOST 1048576: true; the input reads as it did. -/
def exprWritesUptoRow : OpenClaim := { program := "ytdapdpmplbifdaadoor", sum := "c2c7adab6f7b41e72525eedebd5eb763dd896b8bda123ea16047d4a5cb309c0c", func := "attorney/attorneylaw05.ExprWrites", spec := "exprWrites", inPlace := ["internal/bytealg.IndexByteString", "internal/bytealg.IndexString", "internal/abi.NoEscape"], unfollowed := true, recurses := true, named := ["attorney/token.prefixes", "attorney/token.fixed", "internal/bytealg.MaxLen"], apart := false, laid := [("attorney/token.prefixes", laid_attorney_token_prefixes), ("attorney/token.fixed", laid_attorney_token_fixed)], narrowed := true }
def ExprWritesUptoSaid : Prop := exprWritesUptoRow.holds Tryd.pinned (OpenSpec.upto exprWritesSpec)

/-- 'attorneylaw05.ExprBack', WHERE WHAT IT READS IS OF BULK AT MOST 1048576: true; the input reads as it did. -/
def exprBackUptoRow : OpenClaim := { program := "ytdapdpmplbifdaadoor", sum := "c2c7adab6f7b41e72525eedebd5eb763dd896b8bda123ea16047d4a5cb309c0c", func := "attorney/attorneylaw05.ExprBack", spec := "exprBack", inPlace := ["internal/bytealg.IndexByteString", "internal/bytealg.IndexString", "internal/abi.NoEscape"], unfollowed := true, recurses := true, named := ["attorney/token.prefixes", "attorney/token.fixed", "internal/bytealg.MaxLen"], apart := false, laid := [("attorney/token.prefixes", laid_attorney_token_prefixes), ("attorney/token.fixed", laid_attorney_token_fixed)], narrowed := true }
def ExprBackUptoSaid : Prop := exprBackUptoRow.holds Tryd.pinned (OpenSpec.upto exprBackSpec)

/-- 'attorneylaw05.ExprFew', WHERE WHAT IT READS IS OF BULK AT MOST 1048576: true; the input reads as it did. -/
def exprFewUptoRow : OpenClaim := { program := "ytdapdpmplbifdaadoor", sum := "c2c7adab6f7b41e72525eedebd5eb763dd896b8bda123ea16047d4a5cb309c0c", func := "attorney/attorneylaw05.ExprFew", spec := "exprFew", inPlace := ["internal/bytealg.IndexByteString", "internal/bytealg.IndexString", "internal/abi.NoEscape"], unfollowed := true, recurses := true, named := ["attorney/token.prefixes", "attorney/token.fixed", "internal/bytealg.MaxLen"], apart := false, laid := [("attorney/token.prefixes", laid_attorney_token_prefixes), ("attorney/token.fixed", laid_attorney_token_fixed)], narrowed := true }
def ExprFewUptoSaid : Prop := exprFewUptoRow.holds Tryd.pinned (OpenSpec.upto exprFewSpec)

/-- 'attorneylaw05.ExprJoins', WHERE WHAT IT READS IS OF BULK AT MOST 1048576: true; the input reads as it did. -/
def exprJoinsUptoRow : OpenClaim := { program := "ytdapdpmplbifdaadoor", sum := "c2c7adab6f7b41e72525eedebd5eb763dd896b8bda123ea16047d4a5cb309c0c", func := "attorney/attorneylaw05.ExprJoins", spec := "exprJoins", inPlace := ["internal/bytealg.IndexByteString", "internal/bytealg.IndexString", "internal/abi.NoEscape"], unfollowed := true, recurses := true, named := ["attorney/token.prefixes", "attorney/token.fixed", "internal/bytealg.MaxLen"], apart := false, laid := [("attorney/token.prefixes", laid_attorney_token_prefixes), ("attorney/token.fixed", laid_attorney_token_fixed)], narrowed := true }
def ExprJoinsUptoSaid : Prop := exprJoinsUptoRow.holds Tryd.pinned (OpenSpec.upto exprJoinsSpec)

/-- 'attorneylaw05.ExprOpen', WHERE WHAT IT READS IS OF BULK AT MOST 1048576: true; the input reads as it did. -/
def exprOpenUptoRow : OpenClaim := { program := "ytdapdpmplbifdaadoor", sum := "c2c7adab6f7b41e72525eedebd5eb763dd896b8bda123ea16047d4a5cb309c0c", func := "attorney/attorneylaw05.ExprOpen", spec := "exprOpen", inPlace := ["internal/bytealg.IndexByteString", "internal/bytealg.IndexString", "internal/abi.NoEscape"], unfollowed := true, recurses := true, named := ["attorney/token.prefixes", "attorney/token.fixed", "internal/bytealg.MaxLen"], apart := false, laid := [("attorney/token.prefixes", laid_attorney_token_prefixes), ("attorney/token.fixed", laid_attorney_token_fixed)], narrowed := true }
def ExprOpenUptoSaid : Prop := exprOpenUptoRow.holds Tryd.pinned (OpenSpec.upto exprOpenSpec)

end Rows
end Go.Proofs.YtdapdpmplbifdaaDoor
