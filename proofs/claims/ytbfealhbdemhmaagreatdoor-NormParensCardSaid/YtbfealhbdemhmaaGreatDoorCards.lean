/-
  DERIVED. GIVEN WITH THE SEED: THE CARDS: each row of YtbfealhbdemhmaaGreatDoorRows.lean that lists a variable, with what it lists TIED to the program's text (the seventh form; the later family's looks); each row that meets fmt, with fmt's text TOLD by the authors' own Lean function (tested against real Go, not proved from fmt's source: count such statements apart). THE CARD IS WHAT COUNTS. Prove the row's statement (the work); the ties are given (YtbfealhbdemhmaaGreatDoorTie.lean); close each card by the builder's one call (the guide's Derived/Test/ToyasCard.lean, 'card_holds'). Laid BY PROGRAM, IN A SANDBOX (cutbox-door.mjs). By AI agents, Wed Nov 11 2026. No macro, syntax, notation, axiom, sorry.
-/
import Derived.Test.YtbfealhbdemhmaaGreatDoorRows
import GoSem.ClaimSeven
namespace Go.Proofs.YtbfealhbdemhmaaGreatDoor
namespace Rows

/-- THE TIED CARD OF 'attorneylaw06.NormRuns'. -/
def normRunsCard : Claim7 := { stood := { row := normRunsRow, standIns := [], harness := (true, "29453ca8c0ee5784b5d2d985d48d1a6c5eeaebc25520e10686a524ecec7ccac9"), looks := false }, kinds := [], alts := [], laidByText := true, laidKinds := [.data, .data], laidTests := true, laidLooks := .later }
def NormRunsCardSaid : Prop := Claim7.holds Tryz.pinned (.plain (OpenSpec.ofChange normRunsSpec)) normRunsCard

/-- THE TIED CARD OF 'attorneylaw06.NormReads'. -/
def normReadsCard : Claim7 := { stood := { row := normReadsRow, standIns := [], harness := (true, "29453ca8c0ee5784b5d2d985d48d1a6c5eeaebc25520e10686a524ecec7ccac9"), looks := false }, kinds := [], alts := [], laidByText := true, laidKinds := [.data, .data], laidTests := true, laidLooks := .later }
def NormReadsCardSaid : Prop := Claim7.holds Tryz.pinned (.plain (OpenSpec.ofChange normReadsSpec)) normReadsCard

/-- THE TIED CARD OF 'attorneylaw06.NormShows'. -/
def normShowsCard : Claim7 := { stood := { row := normShowsRow, standIns := [], harness := (true, "29453ca8c0ee5784b5d2d985d48d1a6c5eeaebc25520e10686a524ecec7ccac9"), looks := false }, kinds := [], alts := [], laidByText := true, laidKinds := [.data, .data], laidTests := true, laidLooks := .later }
def NormShowsCardSaid : Prop := Claim7.holds Tryz.pinned (.plain (OpenSpec.ofChange normShowsSpec)) normShowsCard

/-- THE TIED CARD OF 'attorneylaw06.NormBack'. -/
def normBackCard : Claim7 := { stood := { row := normBackRow, standIns := [], harness := (true, "29453ca8c0ee5784b5d2d985d48d1a6c5eeaebc25520e10686a524ecec7ccac9"), looks := false }, kinds := [], alts := [], laidByText := true, laidKinds := [.data, .data], laidTests := true, laidLooks := .later }
def NormBackCardSaid : Prop := Claim7.holds Tryz.pinned (.plain (OpenSpec.ofChange normBackSpec)) normBackCard

/-- THE TIED CARD OF 'attorneylaw06.NormMeans'. -/
def normMeansCard : Claim7 := { stood := { row := normMeansRow, standIns := [], harness := (true, "29453ca8c0ee5784b5d2d985d48d1a6c5eeaebc25520e10686a524ecec7ccac9"), looks := false }, kinds := [], alts := [], laidByText := true, laidKinds := [.data, .data], laidTests := true, laidLooks := .later }
def NormMeansCardSaid : Prop := Claim7.holds Tryz.pinned (.plain (OpenSpec.ofChange normMeansSpec)) normMeansCard

/-- THE TIED CARD OF 'attorneylaw06.NormParens'. -/
def normParensCard : Claim7 := { stood := { row := normParensRow, standIns := [], harness := (true, "29453ca8c0ee5784b5d2d985d48d1a6c5eeaebc25520e10686a524ecec7ccac9"), looks := false }, kinds := [], alts := [], laidByText := true, laidKinds := [.data, .data], laidTests := true, laidLooks := .later }
def NormParensCardSaid : Prop := Claim7.holds Tryz.pinned (.plain (OpenSpec.ofChange normParensSpec)) normParensCard

/-- THE SECOND FORM's CARD OF 'attorneylaw06.NormRuns'. -/
def normRunsUptoCard : Claim7 := { stood := { row := normRunsUptoRow, standIns := [], harness := (true, "29453ca8c0ee5784b5d2d985d48d1a6c5eeaebc25520e10686a524ecec7ccac9"), looks := false }, kinds := [], alts := [], laidByText := true, laidKinds := [.data, .data], laidTests := true, laidLooks := .later }
def NormRunsUptoCardSaid : Prop := Claim7.holds Tryz.pinned (.plain (OpenSpec.upto normRunsSpec)) normRunsUptoCard

/-- THE SECOND FORM's CARD OF 'attorneylaw06.NormReads'. -/
def normReadsUptoCard : Claim7 := { stood := { row := normReadsUptoRow, standIns := [], harness := (true, "29453ca8c0ee5784b5d2d985d48d1a6c5eeaebc25520e10686a524ecec7ccac9"), looks := false }, kinds := [], alts := [], laidByText := true, laidKinds := [.data, .data], laidTests := true, laidLooks := .later }
def NormReadsUptoCardSaid : Prop := Claim7.holds Tryz.pinned (.plain (OpenSpec.upto normReadsSpec)) normReadsUptoCard

/-- THE SECOND FORM's CARD OF 'attorneylaw06.NormShows'. -/
def normShowsUptoCard : Claim7 := { stood := { row := normShowsUptoRow, standIns := [], harness := (true, "29453ca8c0ee5784b5d2d985d48d1a6c5eeaebc25520e10686a524ecec7ccac9"), looks := false }, kinds := [], alts := [], laidByText := true, laidKinds := [.data, .data], laidTests := true, laidLooks := .later }
def NormShowsUptoCardSaid : Prop := Claim7.holds Tryz.pinned (.plain (OpenSpec.upto normShowsSpec)) normShowsUptoCard

/-- THE SECOND FORM's CARD OF 'attorneylaw06.NormBack'. -/
def normBackUptoCard : Claim7 := { stood := { row := normBackUptoRow, standIns := [], harness := (true, "29453ca8c0ee5784b5d2d985d48d1a6c5eeaebc25520e10686a524ecec7ccac9"), looks := false }, kinds := [], alts := [], laidByText := true, laidKinds := [.data, .data], laidTests := true, laidLooks := .later }
def NormBackUptoCardSaid : Prop := Claim7.holds Tryz.pinned (.plain (OpenSpec.upto normBackSpec)) normBackUptoCard

/-- THE SECOND FORM's CARD OF 'attorneylaw06.NormMeans'. -/
def normMeansUptoCard : Claim7 := { stood := { row := normMeansUptoRow, standIns := [], harness := (true, "29453ca8c0ee5784b5d2d985d48d1a6c5eeaebc25520e10686a524ecec7ccac9"), looks := false }, kinds := [], alts := [], laidByText := true, laidKinds := [.data, .data], laidTests := true, laidLooks := .later }
def NormMeansUptoCardSaid : Prop := Claim7.holds Tryz.pinned (.plain (OpenSpec.upto normMeansSpec)) normMeansUptoCard

/-- THE SECOND FORM's CARD OF 'attorneylaw06.NormParens'. -/
def normParensUptoCard : Claim7 := { stood := { row := normParensUptoRow, standIns := [], harness := (true, "29453ca8c0ee5784b5d2d985d48d1a6c5eeaebc25520e10686a524ecec7ccac9"), looks := false }, kinds := [], alts := [], laidByText := true, laidKinds := [.data, .data], laidTests := true, laidLooks := .later }
def NormParensUptoCardSaid : Prop := Claim7.holds Tryz.pinned (.plain (OpenSpec.upto normParensSpec)) normParensUptoCard
end Rows
end Go.Proofs.YtbfealhbdemhmaaGreatDoor
