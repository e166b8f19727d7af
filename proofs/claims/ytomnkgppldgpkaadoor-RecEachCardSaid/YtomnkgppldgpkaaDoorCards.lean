/-
  DERIVED. GIVEN WITH THE SEED: THE CARDS: each row of YtomnkgppldgpkaaDoorRows.lean that lists a variable, with what it lists TIED to the program's text (the seventh form; the later family's looks); each row that meets fmt, with fmt's text TOLD by the authors' own Lean function (tested against real Go, not proved from fmt's source: count such statements apart). THE CARD IS WHAT COUNTS. Prove the row's statement (the work); the ties are given (YtomnkgppldgpkaaDoorTie.lean); close each card by the builder's one call (the guide's Derived/Test/ToyasCard.lean, 'card_holds'). Laid BY PROGRAM, IN A SANDBOX (cutbox-door.mjs). By AI agents, Wed Nov 11 2026. No macro, syntax, notation, axiom, sorry.
-/
import Derived.Test.YtomnkgppldgpkaaDoorRows
import GoSem.ClaimSeven
namespace Go.Proofs.YtomnkgppldgpkaaDoor
namespace Rows

/-- THE TIED CARD OF 'cordwoodlaw3.RecReads'. -/
def recReadsCard : Claim7 := { stood := { row := recReadsRow, standIns := [], harness := (true, "515af8a12332235893158d4dc15d60b0be00de869552d5b088933d695bfb13f3"), looks := true }, kinds := [], alts := [], laidByText := true, laidKinds := [.sentinel, .sentinel, .sentinel, .sentinel, .sentinel, .sentinel, .sentinel, .sentinel, .sentinel, .sentinel, .sentinel, .sentinel, .sentinel, .sentinel, .sentinel, .sentinel, .sentinel, .sentinel, .sentinel, .data, .data], laidTests := true, laidLooks := .later }
def RecReadsCardSaid : Prop := Claim7.holds Tryd.pinned (.plain (OpenSpec.ofChange recReadsSpec)) recReadsCard

/-- THE TIED CARD OF 'cordwoodlaw3.RecEach'. -/
def recEachCard : Claim7 := { stood := { row := recEachRow, standIns := [], harness := (true, "515af8a12332235893158d4dc15d60b0be00de869552d5b088933d695bfb13f3"), looks := true }, kinds := [], alts := [], laidByText := true, laidKinds := [.sentinel, .sentinel, .data, .data], laidTests := true, laidLooks := .later }
def RecEachCardSaid : Prop := Claim7.holds Tryd.pinned (.plain (OpenSpec.ofChange recEachSpec)) recEachCard

/-- THE SECOND FORM's CARD OF 'cordwoodlaw3.RecReads'. -/
def recReadsUptoCard : Claim7 := { stood := { row := recReadsUptoRow, standIns := [], harness := (true, "515af8a12332235893158d4dc15d60b0be00de869552d5b088933d695bfb13f3"), looks := true }, kinds := [], alts := [], laidByText := true, laidKinds := [.sentinel, .sentinel, .sentinel, .sentinel, .sentinel, .sentinel, .sentinel, .sentinel, .sentinel, .sentinel, .sentinel, .sentinel, .sentinel, .sentinel, .sentinel, .sentinel, .sentinel, .sentinel, .sentinel, .data, .data], laidTests := true, laidLooks := .later }
def RecReadsUptoCardSaid : Prop := Claim7.holds Tryd.pinned (.plain (OpenSpec.upto recReadsSpec)) recReadsUptoCard

/-- THE SECOND FORM's CARD OF 'cordwoodlaw3.RecEach'. -/
def recEachUptoCard : Claim7 := { stood := { row := recEachUptoRow, standIns := [], harness := (true, "515af8a12332235893158d4dc15d60b0be00de869552d5b088933d695bfb13f3"), looks := true }, kinds := [], alts := [], laidByText := true, laidKinds := [.sentinel, .sentinel, .data, .data], laidTests := true, laidLooks := .later }
def RecEachUptoCardSaid : Prop := Claim7.holds Tryd.pinned (.plain (OpenSpec.upto recEachSpec)) recEachUptoCard
end Rows
end Go.Proofs.YtomnkgppldgpkaaDoor
