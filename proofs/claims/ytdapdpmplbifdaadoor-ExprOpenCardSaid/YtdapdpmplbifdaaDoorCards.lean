/-
  DERIVED. GIVEN WITH THE SEED: THE CARDS: each row of YtdapdpmplbifdaaDoorRows.lean that lists a variable, with what it lists TIED to the program's text (the seventh form; the later family's looks); each row that meets fmt, with fmt's text TOLD by the authors' own Lean function (tested against real Go, not proved from fmt's source: count such statements apart). THE CARD IS WHAT COUNTS. Prove the row's statement (the work); the ties are given (YtdapdpmplbifdaaDoorTie.lean); close each card by the builder's one call (the guide's Derived/Test/ToyasCard.lean, 'card_holds'). Laid BY PROGRAM, IN A SANDBOX (cutbox-door.mjs). By AI agents, Wed Nov 11 2026. No macro, syntax, notation, axiom, sorry.
-/
import Derived.Test.YtdapdpmplbifdaaDoorRows
import GoSem.ClaimSeven
namespace Go.Proofs.YtdapdpmplbifdaaDoor
namespace Rows

/-- THE TIED CARD OF 'attorneylaw05.ExprParses'. -/
def exprParsesCard : Claim7 := { stood := { row := exprParsesRow, standIns := [], harness := (true, "004decc4c7ffc314f2551145bb842ceae896311ce88d67928be78a3965e942ec"), looks := false }, kinds := [], alts := [], laidByText := true, laidKinds := [.data, .data], laidTests := true, laidLooks := .later }
def ExprParsesCardSaid : Prop := Claim7.holds Tryd.pinned (.plain (OpenSpec.ofChange exprParsesSpec)) exprParsesCard

/-- THE TIED CARD OF 'attorneylaw05.ExprReads'. -/
def exprReadsCard : Claim7 := { stood := { row := exprReadsRow, standIns := [], harness := (true, "004decc4c7ffc314f2551145bb842ceae896311ce88d67928be78a3965e942ec"), looks := false }, kinds := [], alts := [], laidByText := true, laidKinds := [.data, .data], laidTests := true, laidLooks := .later }
def ExprReadsCardSaid : Prop := Claim7.holds Tryd.pinned (.plain (OpenSpec.ofChange exprReadsSpec)) exprReadsCard

/-- THE TIED CARD OF 'attorneylaw05.ExprWrites'. -/
def exprWritesCard : Claim7 := { stood := { row := exprWritesRow, standIns := [], harness := (true, "004decc4c7ffc314f2551145bb842ceae896311ce88d67928be78a3965e942ec"), looks := false }, kinds := [], alts := [], laidByText := true, laidKinds := [.data, .data], laidTests := true, laidLooks := .later }
def ExprWritesCardSaid : Prop := Claim7.holds Tryd.pinned (.plain (OpenSpec.ofChange exprWritesSpec)) exprWritesCard

/-- THE TIED CARD OF 'attorneylaw05.ExprBack'. -/
def exprBackCard : Claim7 := { stood := { row := exprBackRow, standIns := [], harness := (true, "004decc4c7ffc314f2551145bb842ceae896311ce88d67928be78a3965e942ec"), looks := false }, kinds := [], alts := [], laidByText := true, laidKinds := [.data, .data], laidTests := true, laidLooks := .later }
def ExprBackCardSaid : Prop := Claim7.holds Tryd.pinned (.plain (OpenSpec.ofChange exprBackSpec)) exprBackCard

/-- THE TIED CARD OF 'attorneylaw05.ExprFew'. -/
def exprFewCard : Claim7 := { stood := { row := exprFewRow, standIns := [], harness := (true, "004decc4c7ffc314f2551145bb842ceae896311ce88d67928be78a3965e942ec"), looks := false }, kinds := [], alts := [], laidByText := true, laidKinds := [.data, .data], laidTests := true, laidLooks := .later }
def ExprFewCardSaid : Prop := Claim7.holds Tryd.pinned (.plain (OpenSpec.ofChange exprFewSpec)) exprFewCard

/-- THE TIED CARD OF 'attorneylaw05.ExprJoins'. -/
def exprJoinsCard : Claim7 := { stood := { row := exprJoinsRow, standIns := [], harness := (true, "004decc4c7ffc314f2551145bb842ceae896311ce88d67928be78a3965e942ec"), looks := false }, kinds := [], alts := [], laidByText := true, laidKinds := [.data, .data], laidTests := true, laidLooks := .later }
def ExprJoinsCardSaid : Prop := Claim7.holds Tryd.pinned (.plain (OpenSpec.ofChange exprJoinsSpec)) exprJoinsCard

/-- THE TIED CARD OF 'attorneylaw05.ExprOpen'. -/
def exprOpenCard : Claim7 := { stood := { row := exprOpenRow, standIns := [], harness := (true, "004decc4c7ffc314f2551145bb842ceae896311ce88d67928be78a3965e942ec"), looks := false }, kinds := [], alts := [], laidByText := true, laidKinds := [.data, .data], laidTests := true, laidLooks := .later }
def ExprOpenCardSaid : Prop := Claim7.holds Tryd.pinned (.plain (OpenSpec.ofChange exprOpenSpec)) exprOpenCard

/-- THE SECOND FORM's CARD OF 'attorneylaw05.ExprParses'. -/
def exprParsesUptoCard : Claim7 := { stood := { row := exprParsesUptoRow, standIns := [], harness := (true, "004decc4c7ffc314f2551145bb842ceae896311ce88d67928be78a3965e942ec"), looks := false }, kinds := [], alts := [], laidByText := true, laidKinds := [.data, .data], laidTests := true, laidLooks := .later }
def ExprParsesUptoCardSaid : Prop := Claim7.holds Tryd.pinned (.plain (OpenSpec.upto exprParsesSpec)) exprParsesUptoCard

/-- THE SECOND FORM's CARD OF 'attorneylaw05.ExprReads'. -/
def exprReadsUptoCard : Claim7 := { stood := { row := exprReadsUptoRow, standIns := [], harness := (true, "004decc4c7ffc314f2551145bb842ceae896311ce88d67928be78a3965e942ec"), looks := false }, kinds := [], alts := [], laidByText := true, laidKinds := [.data, .data], laidTests := true, laidLooks := .later }
def ExprReadsUptoCardSaid : Prop := Claim7.holds Tryd.pinned (.plain (OpenSpec.upto exprReadsSpec)) exprReadsUptoCard

/-- THE SECOND FORM's CARD OF 'attorneylaw05.ExprWrites'. -/
def exprWritesUptoCard : Claim7 := { stood := { row := exprWritesUptoRow, standIns := [], harness := (true, "004decc4c7ffc314f2551145bb842ceae896311ce88d67928be78a3965e942ec"), looks := false }, kinds := [], alts := [], laidByText := true, laidKinds := [.data, .data], laidTests := true, laidLooks := .later }
def ExprWritesUptoCardSaid : Prop := Claim7.holds Tryd.pinned (.plain (OpenSpec.upto exprWritesSpec)) exprWritesUptoCard

/-- THE SECOND FORM's CARD OF 'attorneylaw05.ExprBack'. -/
def exprBackUptoCard : Claim7 := { stood := { row := exprBackUptoRow, standIns := [], harness := (true, "004decc4c7ffc314f2551145bb842ceae896311ce88d67928be78a3965e942ec"), looks := false }, kinds := [], alts := [], laidByText := true, laidKinds := [.data, .data], laidTests := true, laidLooks := .later }
def ExprBackUptoCardSaid : Prop := Claim7.holds Tryd.pinned (.plain (OpenSpec.upto exprBackSpec)) exprBackUptoCard

/-- THE SECOND FORM's CARD OF 'attorneylaw05.ExprFew'. -/
def exprFewUptoCard : Claim7 := { stood := { row := exprFewUptoRow, standIns := [], harness := (true, "004decc4c7ffc314f2551145bb842ceae896311ce88d67928be78a3965e942ec"), looks := false }, kinds := [], alts := [], laidByText := true, laidKinds := [.data, .data], laidTests := true, laidLooks := .later }
def ExprFewUptoCardSaid : Prop := Claim7.holds Tryd.pinned (.plain (OpenSpec.upto exprFewSpec)) exprFewUptoCard

/-- THE SECOND FORM's CARD OF 'attorneylaw05.ExprJoins'. -/
def exprJoinsUptoCard : Claim7 := { stood := { row := exprJoinsUptoRow, standIns := [], harness := (true, "004decc4c7ffc314f2551145bb842ceae896311ce88d67928be78a3965e942ec"), looks := false }, kinds := [], alts := [], laidByText := true, laidKinds := [.data, .data], laidTests := true, laidLooks := .later }
def ExprJoinsUptoCardSaid : Prop := Claim7.holds Tryd.pinned (.plain (OpenSpec.upto exprJoinsSpec)) exprJoinsUptoCard

/-- THE SECOND FORM's CARD OF 'attorneylaw05.ExprOpen'. -/
def exprOpenUptoCard : Claim7 := { stood := { row := exprOpenUptoRow, standIns := [], harness := (true, "004decc4c7ffc314f2551145bb842ceae896311ce88d67928be78a3965e942ec"), looks := false }, kinds := [], alts := [], laidByText := true, laidKinds := [.data, .data], laidTests := true, laidLooks := .later }
def ExprOpenUptoCardSaid : Prop := Claim7.holds Tryd.pinned (.plain (OpenSpec.upto exprOpenSpec)) exprOpenUptoCard
end Rows
end Go.Proofs.YtdapdpmplbifdaaDoor
