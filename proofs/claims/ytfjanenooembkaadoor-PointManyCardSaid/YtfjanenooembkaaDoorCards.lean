/-
  DERIVED. GIVEN WITH THE SEED: THE CARDS: each row of YtfjanenooembkaaDoorRows.lean that lists a variable, with what it lists TIED to the program's text (the seventh form; the later family's looks); each row that meets fmt, with fmt's text TOLD by the authors' own Lean function (tested against real Go, not proved from fmt's source: count such statements apart). THE CARD IS WHAT COUNTS. Prove the row's statement (the work); the ties are given (YtfjanenooembkaaDoorTie.lean); close each card by the builder's one call (the guide's Derived/Test/ToyasCard.lean, 'card_holds'). Laid BY PROGRAM, IN A SANDBOX (cutbox-door.mjs). By AI agents, Wed Nov 11 2026. No macro, syntax, notation, axiom, sorry.
-/
import Derived.Test.YtfjanenooembkaaDoorRows
import GoSem.ClaimSeven
namespace Go.Proofs.YtfjanenooembkaaDoor
namespace Rows

/-- THE TIED CARD OF 'cordwoodlaw8.PointKeeps'. -/
def pointKeepsCard : Claim7 := { stood := { row := pointKeepsRow, standIns := [], harness := (true, "bc22304ccb3dedbba7d753cc740efda678812878eb3e9a084eb95428ccf12eb5"), looks := true }, kinds := [], alts := [], laidByText := true, laidKinds := [.sentinel, .sentinel, .sentinel, .sentinel, .sentinel, .sentinel, .sentinel, .sentinel, .sentinel, .sentinel, .sentinel, .sentinel, .sentinel, .sentinel, .sentinel, .sentinel, .sentinel, .sentinel, .sentinel, .data, .data], laidTests := true, laidLooks := .later }
def PointKeepsCardSaid : Prop := Claim7.holds Tryd.pinned (.plain (OpenSpec.ofChange pointKeepsSpec)) pointKeepsCard

/-- THE TIED CARD OF 'cordwoodlaw8.PointFirst'. -/
def pointFirstCard : Claim7 := { stood := { row := pointFirstRow, standIns := [], harness := (true, "bc22304ccb3dedbba7d753cc740efda678812878eb3e9a084eb95428ccf12eb5"), looks := true }, kinds := [], alts := [], laidByText := true, laidKinds := [.sentinel, .sentinel, .sentinel, .sentinel, .sentinel, .sentinel, .sentinel, .sentinel, .sentinel, .sentinel, .sentinel, .sentinel, .sentinel, .sentinel, .sentinel, .sentinel, .sentinel, .sentinel, .sentinel, .data, .data], laidTests := true, laidLooks := .later }
def PointFirstCardSaid : Prop := Claim7.holds Tryd.pinned (.plain (OpenSpec.ofChange pointFirstSpec)) pointFirstCard

/-- THE TIED CARD OF 'cordwoodlaw8.PointNames'. -/
def pointNamesCard : Claim7 := { stood := { row := pointNamesRow, standIns := [], harness := (true, "bc22304ccb3dedbba7d753cc740efda678812878eb3e9a084eb95428ccf12eb5"), looks := true }, kinds := [], alts := [], laidByText := true, laidKinds := [.sentinel, .sentinel, .sentinel, .sentinel, .sentinel, .sentinel, .sentinel, .sentinel, .sentinel, .sentinel, .sentinel, .sentinel, .sentinel, .sentinel, .sentinel, .sentinel, .sentinel, .sentinel, .sentinel, .data, .data], laidTests := true, laidLooks := .later }
def PointNamesCardSaid : Prop := Claim7.holds Tryd.pinned (.plain (OpenSpec.ofChange pointNamesSpec)) pointNamesCard

/-- THE TIED CARD OF 'cordwoodlaw8.PointNums'. -/
def pointNumsCard : Claim7 := { stood := { row := pointNumsRow, standIns := [], harness := (true, "bc22304ccb3dedbba7d753cc740efda678812878eb3e9a084eb95428ccf12eb5"), looks := true }, kinds := [], alts := [], laidByText := true, laidKinds := [.sentinel, .sentinel, .sentinel, .sentinel, .sentinel, .sentinel, .sentinel, .sentinel, .sentinel, .sentinel, .sentinel, .sentinel, .sentinel, .sentinel, .sentinel, .sentinel, .sentinel, .sentinel, .sentinel], laidTests := true, laidLooks := .later }
def PointNumsCardSaid : Prop := Claim7.holds Tryd.pinned (.plain (OpenSpec.ofChange pointNumsSpec)) pointNumsCard

/-- THE TIED CARD OF 'cordwoodlaw8.PointMany'. -/
def pointManyCard : Claim7 := { stood := { row := pointManyRow, standIns := [], harness := (true, "bc22304ccb3dedbba7d753cc740efda678812878eb3e9a084eb95428ccf12eb5"), looks := true }, kinds := [], alts := [], laidByText := true, laidKinds := [.sentinel, .sentinel, .sentinel, .sentinel, .sentinel, .sentinel, .sentinel, .sentinel, .data, .data], laidTests := true, laidLooks := .later }
def PointManyCardSaid : Prop := Claim7.holds Tryd.pinned (.plain (OpenSpec.ofChange pointManySpec)) pointManyCard

/-- THE TIED CARD OF 'cordwoodlaw8.PointFull'. -/
def pointFullCard : Claim7 := { stood := { row := pointFullRow, standIns := [], harness := (true, "bc22304ccb3dedbba7d753cc740efda678812878eb3e9a084eb95428ccf12eb5"), looks := true }, kinds := [], alts := [], laidByText := true, laidKinds := [.sentinel, .sentinel, .sentinel, .sentinel, .sentinel, .sentinel, .sentinel, .sentinel, .data, .data], laidTests := true, laidLooks := .later }
def PointFullCardSaid : Prop := Claim7.holds Tryd.pinned (.plain (OpenSpec.ofChange pointFullSpec)) pointFullCard

/-- THE SECOND FORM's CARD OF 'cordwoodlaw8.PointKeeps'. -/
def pointKeepsUptoCard : Claim7 := { stood := { row := pointKeepsUptoRow, standIns := [], harness := (true, "bc22304ccb3dedbba7d753cc740efda678812878eb3e9a084eb95428ccf12eb5"), looks := true }, kinds := [], alts := [], laidByText := true, laidKinds := [.sentinel, .sentinel, .sentinel, .sentinel, .sentinel, .sentinel, .sentinel, .sentinel, .sentinel, .sentinel, .sentinel, .sentinel, .sentinel, .sentinel, .sentinel, .sentinel, .sentinel, .sentinel, .sentinel, .data, .data], laidTests := true, laidLooks := .later }
def PointKeepsUptoCardSaid : Prop := Claim7.holds Tryd.pinned (.plain (OpenSpec.upto pointKeepsSpec)) pointKeepsUptoCard

/-- THE SECOND FORM's CARD OF 'cordwoodlaw8.PointFirst'. -/
def pointFirstUptoCard : Claim7 := { stood := { row := pointFirstUptoRow, standIns := [], harness := (true, "bc22304ccb3dedbba7d753cc740efda678812878eb3e9a084eb95428ccf12eb5"), looks := true }, kinds := [], alts := [], laidByText := true, laidKinds := [.sentinel, .sentinel, .sentinel, .sentinel, .sentinel, .sentinel, .sentinel, .sentinel, .sentinel, .sentinel, .sentinel, .sentinel, .sentinel, .sentinel, .sentinel, .sentinel, .sentinel, .sentinel, .sentinel, .data, .data], laidTests := true, laidLooks := .later }
def PointFirstUptoCardSaid : Prop := Claim7.holds Tryd.pinned (.plain (OpenSpec.upto pointFirstSpec)) pointFirstUptoCard

/-- THE SECOND FORM's CARD OF 'cordwoodlaw8.PointNames'. -/
def pointNamesUptoCard : Claim7 := { stood := { row := pointNamesUptoRow, standIns := [], harness := (true, "bc22304ccb3dedbba7d753cc740efda678812878eb3e9a084eb95428ccf12eb5"), looks := true }, kinds := [], alts := [], laidByText := true, laidKinds := [.sentinel, .sentinel, .sentinel, .sentinel, .sentinel, .sentinel, .sentinel, .sentinel, .sentinel, .sentinel, .sentinel, .sentinel, .sentinel, .sentinel, .sentinel, .sentinel, .sentinel, .sentinel, .sentinel, .data, .data], laidTests := true, laidLooks := .later }
def PointNamesUptoCardSaid : Prop := Claim7.holds Tryd.pinned (.plain (OpenSpec.upto pointNamesSpec)) pointNamesUptoCard

/-- THE SECOND FORM's CARD OF 'cordwoodlaw8.PointNums'. -/
def pointNumsUptoCard : Claim7 := { stood := { row := pointNumsUptoRow, standIns := [], harness := (true, "bc22304ccb3dedbba7d753cc740efda678812878eb3e9a084eb95428ccf12eb5"), looks := true }, kinds := [], alts := [], laidByText := true, laidKinds := [.sentinel, .sentinel, .sentinel, .sentinel, .sentinel, .sentinel, .sentinel, .sentinel, .sentinel, .sentinel, .sentinel, .sentinel, .sentinel, .sentinel, .sentinel, .sentinel, .sentinel, .sentinel, .sentinel], laidTests := true, laidLooks := .later }
def PointNumsUptoCardSaid : Prop := Claim7.holds Tryd.pinned (.plain (OpenSpec.upto pointNumsSpec)) pointNumsUptoCard

/-- THE SECOND FORM's CARD OF 'cordwoodlaw8.PointMany'. -/
def pointManyUptoCard : Claim7 := { stood := { row := pointManyUptoRow, standIns := [], harness := (true, "bc22304ccb3dedbba7d753cc740efda678812878eb3e9a084eb95428ccf12eb5"), looks := true }, kinds := [], alts := [], laidByText := true, laidKinds := [.sentinel, .sentinel, .sentinel, .sentinel, .sentinel, .sentinel, .sentinel, .sentinel, .data, .data], laidTests := true, laidLooks := .later }
def PointManyUptoCardSaid : Prop := Claim7.holds Tryd.pinned (.plain (OpenSpec.upto pointManySpec)) pointManyUptoCard

/-- THE SECOND FORM's CARD OF 'cordwoodlaw8.PointFull'. -/
def pointFullUptoCard : Claim7 := { stood := { row := pointFullUptoRow, standIns := [], harness := (true, "bc22304ccb3dedbba7d753cc740efda678812878eb3e9a084eb95428ccf12eb5"), looks := true }, kinds := [], alts := [], laidByText := true, laidKinds := [.sentinel, .sentinel, .sentinel, .sentinel, .sentinel, .sentinel, .sentinel, .sentinel, .data, .data], laidTests := true, laidLooks := .later }
def PointFullUptoCardSaid : Prop := Claim7.holds Tryd.pinned (.plain (OpenSpec.upto pointFullSpec)) pointFullUptoCard
end Rows
end Go.Proofs.YtfjanenooembkaaDoor
