/-
  NARROWER THAN 'FOR EVERY INPUT', by the rows' own cells (each row's printed sentence says how): TokenReads: laid · TokenWrites: laid · TokenBack: laid · TokenBlanks: laid · TokenPlaces: laid · TokenCuts: laid.
  DERIVED. THE GIVEN ROWS OF THIS SEAT. 6 by the template 'for every input the law returns true; each argument reads behind the call as it read before'; 0 by the template 'total and deterministic' (their statements: YthceckpeccbpiaaDoorTotals.lean).
  GIVEN WITH THE SEED: the statements are not yours to turn. If you find one false, say at which input.
  Laid BY PROGRAM, IN A SANDBOX (cutbox-rows.mjs): the forced cells as the released guide's own fill.sh prints them over the translation 6cf17b052c96941f… (all of the seat's roots in one cut). By AI agents, Wed Nov 11 2026. No macro, syntax, notation, axiom, sorry.
-/
import Derived.Test.YthceckpeccbpiaaDoorChecked
import GoSem.Claim
import GoSem.ClaimJoined
import GoSem.ClaimMapViews
import Derived.JoinedTies
import Derived.KernelRfl
namespace Go.Proofs.YthceckpeccbpiaaDoor
/- THE CELL 'sum', in the pinned program and in every row, IS THE sha256 OF THE DUMP (.gsa) THAT YthceckpeccbpiaaDoorProg.lean LOADS. Nothing in Lean hashes anything: it is a label: what it is worth is what the hold of that sum in a sandbox is worth. -/
noncomputable def Tryd.pinned : Pinned := { name := "ythceckpeccbpiaadoor", sum := "6cf17b052c96941fa9c9b8f16f37df3df0a8200c1fbc980e4489a47d8c360d19", checked := Tryd.checked }
namespace Rows
def none {H : Type} : Left H := { results := [], args := [] }

/- WHAT THE LISTED PACKAGE-LEVEL VARIABLES READ AS WHEN THE CALL BEGINS. Each datum BY PROGRAM (the guide's laid-datum.mjs) off the statement by which the dump's own 'gosem.cut.vars' lays the variable. In a bare row this is a premise. The card (YthceckpeccbpiaaDoorCards.lean) ties it to the program's text. -/
def laid_attorney_token_prefixes {H : Type} : DataW H := .agg [.lit (.string []), .lit (.string [107, 101, 121, 58]), .lit (.string [99, 104, 97, 110, 58]), .lit (.string []), .lit (.string [103, 114, 111, 117, 112, 58]), .lit (.string [114, 111, 108, 101, 58])]
def laid_attorney_token_fixed {H : Type} : DataW H := .agg [.lit (.string []), .lit (.string []), .lit (.string [97, 110, 100]), .lit (.string [102, 111, 114]), .lit (.string [124]), .lit (.string [97, 115]), .lit (.string [40]), .lit (.string [41])]

/-- 'attorneylaw04.TokenReads': WHATEVER THE INPUT: true; the input reads as it did. -/
def tokenReadsSpec : ChangeSpec := { name := "tokenReads", fn := fun _ => fun
  | [d] => { results := [.lit (.bool true)], args := [d] }
  | _ => none }
def tokenReadsRow : OpenClaim := { program := "ythceckpeccbpiaadoor", sum := "6cf17b052c96941fa9c9b8f16f37df3df0a8200c1fbc980e4489a47d8c360d19", func := "attorney/attorneylaw04.TokenReads", spec := "tokenReads", inPlace := ["internal/bytealg.IndexByteString", "internal/bytealg.IndexString", "internal/abi.NoEscape"], unfollowed := true, recurses := true, named := ["attorney/token.prefixes", "attorney/token.fixed", "internal/bytealg.MaxLen"], apart := false, laid := [("attorney/token.prefixes", laid_attorney_token_prefixes), ("attorney/token.fixed", laid_attorney_token_fixed)] }
def TokenReadsSaid : Prop := tokenReadsRow.holds Tryd.pinned (OpenSpec.ofChange tokenReadsSpec)

/-- ITS FALSE NEIGHBOUR: 'it returns false'. Refute it at one input. -/
def tokenReadsWrong : ChangeSpec := { name := "tokenReads", fn := fun _ => fun
  | [d] => { results := [.lit (.bool false)], args := [d] }
  | _ => none }
def TokenReadsWrongFalsely : Prop := tokenReadsRow.holds Tryd.pinned (OpenSpec.ofChange tokenReadsWrong)

/-- 'attorneylaw04.TokenWrites': WHATEVER THE INPUT: true; the input reads as it did. -/
def tokenWritesSpec : ChangeSpec := { name := "tokenWrites", fn := fun _ => fun
  | [d] => { results := [.lit (.bool true)], args := [d] }
  | _ => none }
def tokenWritesRow : OpenClaim := { program := "ythceckpeccbpiaadoor", sum := "6cf17b052c96941fa9c9b8f16f37df3df0a8200c1fbc980e4489a47d8c360d19", func := "attorney/attorneylaw04.TokenWrites", spec := "tokenWrites", inPlace := ["internal/bytealg.IndexByteString", "internal/bytealg.IndexString", "internal/abi.NoEscape"], unfollowed := true, recurses := true, named := ["attorney/token.prefixes", "attorney/token.fixed", "internal/bytealg.MaxLen"], apart := false, laid := [("attorney/token.prefixes", laid_attorney_token_prefixes), ("attorney/token.fixed", laid_attorney_token_fixed)] }
def TokenWritesSaid : Prop := tokenWritesRow.holds Tryd.pinned (OpenSpec.ofChange tokenWritesSpec)

/-- ITS FALSE NEIGHBOUR: 'it returns false'. Refute it at one input. -/
def tokenWritesWrong : ChangeSpec := { name := "tokenWrites", fn := fun _ => fun
  | [d] => { results := [.lit (.bool false)], args := [d] }
  | _ => none }
def TokenWritesWrongFalsely : Prop := tokenWritesRow.holds Tryd.pinned (OpenSpec.ofChange tokenWritesWrong)

/-- 'attorneylaw04.TokenBack': WHATEVER THE INPUT: true; the input reads as it did. -/
def tokenBackSpec : ChangeSpec := { name := "tokenBack", fn := fun _ => fun
  | [d1, d2] => { results := [.lit (.bool true)], args := [d1, d2] }
  | _ => none }
def tokenBackRow : OpenClaim := { program := "ythceckpeccbpiaadoor", sum := "6cf17b052c96941fa9c9b8f16f37df3df0a8200c1fbc980e4489a47d8c360d19", func := "attorney/attorneylaw04.TokenBack", spec := "tokenBack", inPlace := ["internal/bytealg.IndexByteString", "internal/bytealg.IndexString", "internal/abi.NoEscape"], unfollowed := true, recurses := true, named := ["attorney/token.prefixes", "attorney/token.fixed", "internal/bytealg.MaxLen"], apart := false, laid := [("attorney/token.prefixes", laid_attorney_token_prefixes), ("attorney/token.fixed", laid_attorney_token_fixed)] }
def TokenBackSaid : Prop := tokenBackRow.holds Tryd.pinned (OpenSpec.ofChange tokenBackSpec)

/-- ITS FALSE NEIGHBOUR: 'it returns false'. Refute it at one input. -/
def tokenBackWrong : ChangeSpec := { name := "tokenBack", fn := fun _ => fun
  | [d1, d2] => { results := [.lit (.bool false)], args := [d1, d2] }
  | _ => none }
def TokenBackWrongFalsely : Prop := tokenBackRow.holds Tryd.pinned (OpenSpec.ofChange tokenBackWrong)

/-- 'attorneylaw04.TokenBlanks': WHATEVER THE INPUT: true; the input reads as it did. -/
def tokenBlanksSpec : ChangeSpec := { name := "tokenBlanks", fn := fun _ => fun
  | [d1, d2] => { results := [.lit (.bool true)], args := [d1, d2] }
  | _ => none }
def tokenBlanksRow : OpenClaim := { program := "ythceckpeccbpiaadoor", sum := "6cf17b052c96941fa9c9b8f16f37df3df0a8200c1fbc980e4489a47d8c360d19", func := "attorney/attorneylaw04.TokenBlanks", spec := "tokenBlanks", inPlace := ["internal/bytealg.IndexByteString", "internal/bytealg.IndexString", "internal/abi.NoEscape"], unfollowed := true, recurses := true, named := ["attorney/token.prefixes", "attorney/token.fixed", "internal/bytealg.MaxLen"], apart := false, laid := [("attorney/token.prefixes", laid_attorney_token_prefixes), ("attorney/token.fixed", laid_attorney_token_fixed)] }
def TokenBlanksSaid : Prop := tokenBlanksRow.holds Tryd.pinned (OpenSpec.ofChange tokenBlanksSpec)

/-- ITS FALSE NEIGHBOUR: 'it returns false'. Refute it at one input. -/
def tokenBlanksWrong : ChangeSpec := { name := "tokenBlanks", fn := fun _ => fun
  | [d1, d2] => { results := [.lit (.bool false)], args := [d1, d2] }
  | _ => none }
def TokenBlanksWrongFalsely : Prop := tokenBlanksRow.holds Tryd.pinned (OpenSpec.ofChange tokenBlanksWrong)

/-- 'attorneylaw04.TokenPlaces': WHATEVER THE INPUT: true; the input reads as it did. -/
def tokenPlacesSpec : ChangeSpec := { name := "tokenPlaces", fn := fun _ => fun
  | [d] => { results := [.lit (.bool true)], args := [d] }
  | _ => none }
def tokenPlacesRow : OpenClaim := { program := "ythceckpeccbpiaadoor", sum := "6cf17b052c96941fa9c9b8f16f37df3df0a8200c1fbc980e4489a47d8c360d19", func := "attorney/attorneylaw04.TokenPlaces", spec := "tokenPlaces", inPlace := ["internal/bytealg.IndexByteString", "internal/bytealg.IndexString", "internal/abi.NoEscape"], unfollowed := true, recurses := true, named := ["attorney/token.prefixes", "attorney/token.fixed", "internal/bytealg.MaxLen"], apart := false, laid := [("attorney/token.prefixes", laid_attorney_token_prefixes), ("attorney/token.fixed", laid_attorney_token_fixed)] }
def TokenPlacesSaid : Prop := tokenPlacesRow.holds Tryd.pinned (OpenSpec.ofChange tokenPlacesSpec)

/-- ITS FALSE NEIGHBOUR: 'it returns false'. Refute it at one input. -/
def tokenPlacesWrong : ChangeSpec := { name := "tokenPlaces", fn := fun _ => fun
  | [d] => { results := [.lit (.bool false)], args := [d] }
  | _ => none }
def TokenPlacesWrongFalsely : Prop := tokenPlacesRow.holds Tryd.pinned (OpenSpec.ofChange tokenPlacesWrong)

/-- 'attorneylaw04.TokenCuts': WHATEVER THE INPUT: true; the input reads as it did. -/
def tokenCutsSpec : ChangeSpec := { name := "tokenCuts", fn := fun _ => fun
  | [d] => { results := [.lit (.bool true)], args := [d] }
  | _ => none }
def tokenCutsRow : OpenClaim := { program := "ythceckpeccbpiaadoor", sum := "6cf17b052c96941fa9c9b8f16f37df3df0a8200c1fbc980e4489a47d8c360d19", func := "attorney/attorneylaw04.TokenCuts", spec := "tokenCuts", inPlace := ["internal/bytealg.IndexByteString", "internal/bytealg.IndexString", "internal/abi.NoEscape"], unfollowed := true, recurses := true, named := ["attorney/token.prefixes", "attorney/token.fixed", "internal/bytealg.MaxLen"], apart := false, laid := [("attorney/token.prefixes", laid_attorney_token_prefixes), ("attorney/token.fixed", laid_attorney_token_fixed)] }
def TokenCutsSaid : Prop := tokenCutsRow.holds Tryd.pinned (OpenSpec.ofChange tokenCutsSpec)

/-- ITS FALSE NEIGHBOUR: 'it returns false'. Refute it at one input. -/
def tokenCutsWrong : ChangeSpec := { name := "tokenCuts", fn := fun _ => fun
  | [d] => { results := [.lit (.bool false)], args := [d] }
  | _ => none }
def TokenCutsWrongFalsely : Prop := tokenCutsRow.holds Tryd.pinned (OpenSpec.ofChange tokenCutsWrong)

/- THE SECOND FORM. 'bulk': how many values and letters a reading holds, each counted each time it is reached (what is shared counts as often as it is met; a slice's spare places count too). A statement '..UptoSaid' is the law's where the arguments, and the package variables that the reading takes, are together of bulk at most 1048576: NARROWER than '..Said'. Prove '..Said' where nothing that the law and all that it calls make is longer than what came in: it says more and counts as full. Else prove '..UptoSaid'. A law counts once. -/
mutual
def uptoBulk {H : Type} : DataW H → Nat
  | .lit (.string bytes) => bytes.length + 1
  | .lit _ => 1
  | .nil => 1
  | .ptr d => uptoBulk d + 1
  | .slice elems spare => uptoBulkAll elems + uptoBulkAll spare + 1
  | .agg parts => uptoBulkAll parts + 1
  | .iface _ d => uptoBulk d + 1
  | .map entries => uptoBulkEntries entries + 1
  | .held _ => 1
def uptoBulkAll {H : Type} : List (DataW H) → Nat
  | [] => 0
  | d :: r => uptoBulk d + uptoBulkAll r
def uptoBulkEntries {H : Type} : List (Lit × DataW H) → Nat
  | [] => 0
  | x :: r => uptoBulkEntry x + uptoBulkEntries r
def uptoBulkEntry {H : Type} : Lit × DataW H → Nat
  | (.string bytes, d) => bytes.length + uptoBulk d + 1
  | (_, d) => uptoBulk d + 1
 end
def uptoSmall : (H : Type) → List (DataW H) → Bool := fun _ ds => decide (uptoBulkAll ds ≤ 1048576)
def OpenSpec.upto (s : _root_.Go.ChangeSpec) : _root_.Go.OpenSpec := { _root_.Go.OpenSpec.ofChange s with cond := some uptoSmall }

/-- 'attorneylaw04.TokenReads', WHERE WHAT IT READS IS OF BULK AT MOST 1048576: true; the input reads as it did. -/
def tokenReadsUptoRow : OpenClaim := { program := "ythceckpeccbpiaadoor", sum := "6cf17b052c96941fa9c9b8f16f37df3df0a8200c1fbc980e4489a47d8c360d19", func := "attorney/attorneylaw04.TokenReads", spec := "tokenReads", inPlace := ["internal/bytealg.IndexByteString", "internal/bytealg.IndexString", "internal/abi.NoEscape"], unfollowed := true, recurses := true, named := ["attorney/token.prefixes", "attorney/token.fixed", "internal/bytealg.MaxLen"], apart := false, laid := [("attorney/token.prefixes", laid_attorney_token_prefixes), ("attorney/token.fixed", laid_attorney_token_fixed)], narrowed := true }
def TokenReadsUptoSaid : Prop := tokenReadsUptoRow.holds Tryd.pinned (OpenSpec.upto tokenReadsSpec)

/-- 'attorneylaw04.TokenWrites', WHERE WHAT IT READS IS OF BULK AT MOST 1048576: true; the input reads as it did. -/
def tokenWritesUptoRow : OpenClaim := { program := "ythceckpeccbpiaadoor", sum := "6cf17b052c96941fa9c9b8f16f37df3df0a8200c1fbc980e4489a47d8c360d19", func := "attorney/attorneylaw04.TokenWrites", spec := "tokenWrites", inPlace := ["internal/bytealg.IndexByteString", "internal/bytealg.IndexString", "internal/abi.NoEscape"], unfollowed := true, recurses := true, named := ["attorney/token.prefixes", "attorney/token.fixed", "internal/bytealg.MaxLen"], apart := false, laid := [("attorney/token.prefixes", laid_attorney_token_prefixes), ("attorney/token.fixed", laid_attorney_token_fixed)], narrowed := true }
def TokenWritesUptoSaid : Prop := tokenWritesUptoRow.holds Tryd.pinned (OpenSpec.upto tokenWritesSpec)

/-- 'attorneylaw04.TokenBack', WHERE WHAT IT READS IS OF BULK AT MOST 1048576: true; the input reads as it did. -/
def tokenBackUptoRow : OpenClaim := { program := "ythceckpeccbpiaadoor", sum := "6cf17b052c96941fa9c9b8f16f37df3df0a8200c1fbc980e4489a47d8c360d19", func := "attorney/attorneylaw04.TokenBack", spec := "tokenBack", inPlace := ["internal/bytealg.IndexByteString", "internal/bytealg.IndexString", "internal/abi.NoEscape"], unfollowed := true, recurses := true, named := ["attorney/token.prefixes", "attorney/token.fixed", "internal/bytealg.MaxLen"], apart := false, laid := [("attorney/token.prefixes", laid_attorney_token_prefixes), ("attorney/token.fixed", laid_attorney_token_fixed)], narrowed := true }
def TokenBackUptoSaid : Prop := tokenBackUptoRow.holds Tryd.pinned (OpenSpec.upto tokenBackSpec)

/-- 'attorneylaw04.TokenBlanks', WHERE WHAT IT READS IS OF BULK AT MOST 1048576: true; the input reads as it did. -/
def tokenBlanksUptoRow : OpenClaim := { program := "ythceckpeccbpiaadoor", sum := "6cf17b052c96941fa9c9b8f16f37df3df0a8200c1fbc980e4489a47d8c360d19", func := "attorney/attorneylaw04.TokenBlanks", spec := "tokenBlanks", inPlace := ["internal/bytealg.IndexByteString", "internal/bytealg.IndexString", "internal/abi.NoEscape"], unfollowed := true, recurses := true, named := ["attorney/token.prefixes", "attorney/token.fixed", "internal/bytealg.MaxLen"], apart := false, laid := [("attorney/token.prefixes", laid_attorney_token_prefixes), ("attorney/token.fixed", laid_attorney_token_fixed)], narrowed := true }
def TokenBlanksUptoSaid : Prop := tokenBlanksUptoRow.holds Tryd.pinned (OpenSpec.upto tokenBlanksSpec)

/-- 'attorneylaw04.TokenPlaces', WHERE WHAT IT READS IS OF BULK AT MOST 1048576: true; the input reads as it did. -/
def tokenPlacesUptoRow : OpenClaim := { program := "ythceckpeccbpiaadoor", sum := "6cf17b052c96941fa9c9b8f16f37df3df0a8200c1fbc980e4489a47d8c360d19", func := "attorney/attorneylaw04.TokenPlaces", spec := "tokenPlaces", inPlace := ["internal/bytealg.IndexByteString", "internal/bytealg.IndexString", "internal/abi.NoEscape"], unfollowed := true, recurses := true, named := ["attorney/token.prefixes", "attorney/token.fixed", "internal/bytealg.MaxLen"], apart := false, laid := [("attorney/token.prefixes", laid_attorney_token_prefixes), ("attorney/token.fixed", laid_attorney_token_fixed)], narrowed := true }
def TokenPlacesUptoSaid : Prop := tokenPlacesUptoRow.holds Tryd.pinned (OpenSpec.upto tokenPlacesSpec)

/-- 'attorneylaw04.TokenCuts', WHERE WHAT IT READS IS OF BULK AT MOST 1048576: true; the input reads as it did. -/
def tokenCutsUptoRow : OpenClaim := { program := "ythceckpeccbpiaadoor", sum := "6cf17b052c96941fa9c9b8f16f37df3df0a8200c1fbc980e4489a47d8c360d19", func := "attorney/attorneylaw04.TokenCuts", spec := "tokenCuts", inPlace := ["internal/bytealg.IndexByteString", "internal/bytealg.IndexString", "internal/abi.NoEscape"], unfollowed := true, recurses := true, named := ["attorney/token.prefixes", "attorney/token.fixed", "internal/bytealg.MaxLen"], apart := false, laid := [("attorney/token.prefixes", laid_attorney_token_prefixes), ("attorney/token.fixed", laid_attorney_token_fixed)], narrowed := true }
def TokenCutsUptoSaid : Prop := tokenCutsUptoRow.holds Tryd.pinned (OpenSpec.upto tokenCutsSpec)

end Rows
end Go.Proofs.YthceckpeccbpiaaDoor
