/-
  DERIVED. GIVEN WITH THE SEED: THE CARDS: each row of YteeadlefbehhfaaDoorRows.lean that lists a variable, with what it lists TIED to the program's text (the seventh form; the later family's looks); each row that meets fmt, with fmt's text TOLD by the authors' own Lean function (tested against real Go, not proved from fmt's source: count such statements apart). THE CARD IS WHAT COUNTS. Prove the row's statement (the work); the ties are given (YteeadlefbehhfaaDoorTie.lean); close each card by the builder's one call (the guide's Derived/Test/ToyasCard.lean, 'card_holds'). Laid BY PROGRAM, IN A SANDBOX (cutbox-door.mjs). By AI agents, Wed Nov 11 2026. No macro, syntax, notation, axiom, sorry.
-/
import Derived.Test.YteeadlefbehhfaaDoorRows
import GoSem.ClaimSeven
namespace Go.Proofs.YteeadlefbehhfaaDoor
namespace Rows

/-- THE TIED CARD OF 'cordwoodlaw6.IndexReads'. -/
def indexReadsCard : Claim7 := { stood := { row := indexReadsRow, standIns := [], harness := (true, "e11fa3c479e842f2c72bcd5ac630582234abf7fe0ee2cfb48aade50271022677"), looks := true }, kinds := [], alts := [], laidByText := true, laidKinds := [.sentinel, .sentinel, .sentinel, .sentinel, .sentinel, .sentinel, .sentinel, .sentinel, .sentinel, .sentinel, .sentinel, .sentinel, .sentinel, .sentinel, .sentinel, .sentinel, .sentinel, .sentinel, .sentinel, .data, .data], laidTests := true, laidLooks := .later }
def IndexReadsCardSaid : Prop := Claim7.holds Tryd.pinned (.plain (OpenSpec.ofChange indexReadsSpec)) indexReadsCard

/-- THE TIED CARD OF 'cordwoodlaw6.IndexFinds'. -/
def indexFindsCard : Claim7 := { stood := { row := indexFindsRow, standIns := [], harness := (true, "e11fa3c479e842f2c72bcd5ac630582234abf7fe0ee2cfb48aade50271022677"), looks := true }, kinds := [], alts := [], laidByText := true, laidKinds := [.sentinel], laidTests := true, laidLooks := .later }
def IndexFindsCardSaid : Prop := Claim7.holds Tryd.pinned (.plain (OpenSpec.ofChange indexFindsSpec)) indexFindsCard

/-- THE TIED CARD OF 'cordwoodlaw6.IndexBack'. -/
def indexBackCard : Claim7 := { stood := { row := indexBackRow, standIns := [], harness := (true, "e11fa3c479e842f2c72bcd5ac630582234abf7fe0ee2cfb48aade50271022677"), looks := true }, kinds := [], alts := [], laidByText := true, laidKinds := [.sentinel, .sentinel, .sentinel, .sentinel, .data, .data], laidTests := true, laidLooks := .later }
def IndexBackCardSaid : Prop := Claim7.holds Tryd.pinned (.plain (OpenSpec.ofChange indexBackSpec)) indexBackCard

/-- THE TIED CARD OF 'cordwoodlaw6.IndexCuts'. -/
def indexCutsCard : Claim7 := { stood := { row := indexCutsRow, standIns := [], harness := (true, "e11fa3c479e842f2c72bcd5ac630582234abf7fe0ee2cfb48aade50271022677"), looks := true }, kinds := [], alts := [], laidByText := true, laidKinds := [.sentinel], laidTests := true, laidLooks := .later }
def IndexCutsCardSaid : Prop := Claim7.holds Tryd.pinned (.plain (OpenSpec.ofChange indexCutsSpec)) indexCutsCard

/-- THE TIED CARD OF 'cordwoodlaw6.IndexTimes'. -/
def indexTimesCard : Claim7 := { stood := { row := indexTimesRow, standIns := [], harness := (true, "e11fa3c479e842f2c72bcd5ac630582234abf7fe0ee2cfb48aade50271022677"), looks := true }, kinds := [], alts := [], laidByText := true, laidKinds := [.sentinel, .sentinel, .sentinel, .sentinel, .sentinel, .sentinel, .sentinel, .sentinel, .sentinel, .sentinel, .sentinel, .sentinel, .sentinel, .sentinel, .sentinel, .sentinel, .sentinel, .sentinel, .sentinel], laidTests := true, laidLooks := .later }
def IndexTimesCardSaid : Prop := Claim7.holds Tryd.pinned (.plain (OpenSpec.ofChange indexTimesSpec)) indexTimesCard

/-- THE TIED CARD OF 'cordwoodlaw6.IndexSpoilt'. -/
def indexSpoiltCard : Claim7 := { stood := { row := indexSpoiltRow, standIns := [], harness := (true, "e11fa3c479e842f2c72bcd5ac630582234abf7fe0ee2cfb48aade50271022677"), looks := true }, kinds := [], alts := [], laidByText := true, laidKinds := [.sentinel, .sentinel, .sentinel, .sentinel, .sentinel, .sentinel, .sentinel, .sentinel, .sentinel, .sentinel, .sentinel, .sentinel, .sentinel, .sentinel, .sentinel, .sentinel, .sentinel, .sentinel, .sentinel, .data, .data], laidTests := true, laidLooks := .later }
def IndexSpoiltCardSaid : Prop := Claim7.holds Tryd.pinned (.plain (OpenSpec.ofChange indexSpoiltSpec)) indexSpoiltCard

/-- THE SECOND FORM's CARD OF 'cordwoodlaw6.IndexReads'. -/
def indexReadsUptoCard : Claim7 := { stood := { row := indexReadsUptoRow, standIns := [], harness := (true, "e11fa3c479e842f2c72bcd5ac630582234abf7fe0ee2cfb48aade50271022677"), looks := true }, kinds := [], alts := [], laidByText := true, laidKinds := [.sentinel, .sentinel, .sentinel, .sentinel, .sentinel, .sentinel, .sentinel, .sentinel, .sentinel, .sentinel, .sentinel, .sentinel, .sentinel, .sentinel, .sentinel, .sentinel, .sentinel, .sentinel, .sentinel, .data, .data], laidTests := true, laidLooks := .later }
def IndexReadsUptoCardSaid : Prop := Claim7.holds Tryd.pinned (.plain (OpenSpec.upto indexReadsSpec)) indexReadsUptoCard

/-- THE SECOND FORM's CARD OF 'cordwoodlaw6.IndexFinds'. -/
def indexFindsUptoCard : Claim7 := { stood := { row := indexFindsUptoRow, standIns := [], harness := (true, "e11fa3c479e842f2c72bcd5ac630582234abf7fe0ee2cfb48aade50271022677"), looks := true }, kinds := [], alts := [], laidByText := true, laidKinds := [.sentinel], laidTests := true, laidLooks := .later }
def IndexFindsUptoCardSaid : Prop := Claim7.holds Tryd.pinned (.plain (OpenSpec.upto indexFindsSpec)) indexFindsUptoCard

/-- THE SECOND FORM's CARD OF 'cordwoodlaw6.IndexBack'. -/
def indexBackUptoCard : Claim7 := { stood := { row := indexBackUptoRow, standIns := [], harness := (true, "e11fa3c479e842f2c72bcd5ac630582234abf7fe0ee2cfb48aade50271022677"), looks := true }, kinds := [], alts := [], laidByText := true, laidKinds := [.sentinel, .sentinel, .sentinel, .sentinel, .data, .data], laidTests := true, laidLooks := .later }
def IndexBackUptoCardSaid : Prop := Claim7.holds Tryd.pinned (.plain (OpenSpec.upto indexBackSpec)) indexBackUptoCard

/-- THE SECOND FORM's CARD OF 'cordwoodlaw6.IndexCuts'. -/
def indexCutsUptoCard : Claim7 := { stood := { row := indexCutsUptoRow, standIns := [], harness := (true, "e11fa3c479e842f2c72bcd5ac630582234abf7fe0ee2cfb48aade50271022677"), looks := true }, kinds := [], alts := [], laidByText := true, laidKinds := [.sentinel], laidTests := true, laidLooks := .later }
def IndexCutsUptoCardSaid : Prop := Claim7.holds Tryd.pinned (.plain (OpenSpec.upto indexCutsSpec)) indexCutsUptoCard

/-- THE SECOND FORM's CARD OF 'cordwoodlaw6.IndexTimes'. -/
def indexTimesUptoCard : Claim7 := { stood := { row := indexTimesUptoRow, standIns := [], harness := (true, "e11fa3c479e842f2c72bcd5ac630582234abf7fe0ee2cfb48aade50271022677"), looks := true }, kinds := [], alts := [], laidByText := true, laidKinds := [.sentinel, .sentinel, .sentinel, .sentinel, .sentinel, .sentinel, .sentinel, .sentinel, .sentinel, .sentinel, .sentinel, .sentinel, .sentinel, .sentinel, .sentinel, .sentinel, .sentinel, .sentinel, .sentinel], laidTests := true, laidLooks := .later }
def IndexTimesUptoCardSaid : Prop := Claim7.holds Tryd.pinned (.plain (OpenSpec.upto indexTimesSpec)) indexTimesUptoCard

/-- THE SECOND FORM's CARD OF 'cordwoodlaw6.IndexSpoilt'. -/
def indexSpoiltUptoCard : Claim7 := { stood := { row := indexSpoiltUptoRow, standIns := [], harness := (true, "e11fa3c479e842f2c72bcd5ac630582234abf7fe0ee2cfb48aade50271022677"), looks := true }, kinds := [], alts := [], laidByText := true, laidKinds := [.sentinel, .sentinel, .sentinel, .sentinel, .sentinel, .sentinel, .sentinel, .sentinel, .sentinel, .sentinel, .sentinel, .sentinel, .sentinel, .sentinel, .sentinel, .sentinel, .sentinel, .sentinel, .sentinel, .data, .data], laidTests := true, laidLooks := .later }
def IndexSpoiltUptoCardSaid : Prop := Claim7.holds Tryd.pinned (.plain (OpenSpec.upto indexSpoiltSpec)) indexSpoiltUptoCard
end Rows
end Go.Proofs.YteeadlefbehhfaaDoor
