/-
  DERIVED. GIVEN WITH THE SEED: THE CARDS: each row of YthemdcdgiccjkaaDoorRows.lean that lists a variable, with what it lists TIED to the program's text (the seventh form; the later family's looks); each row that meets fmt, with fmt's text TOLD by the authors' own Lean function (tested against real Go, not proved from fmt's source: count such statements apart). THE CARD IS WHAT COUNTS. Prove the row's statement (the work); the ties are given (YthemdcdgiccjkaaDoorTie.lean); close each card by the builder's one call (the guide's Derived/Test/ToyasCard.lean, 'card_holds'). Laid BY PROGRAM, IN A SANDBOX (cutbox-door.mjs). By AI agents, Wed Nov 11 2026. No macro, syntax, notation, axiom, sorry.
-/
import Derived.Test.YthemdcdgiccjkaaDoorRows
import GoSem.ClaimSeven
namespace Go.Proofs.YthemdcdgiccjkaaDoor
namespace Rows

/-- THE TIED CARD OF 'cordwoodlaw3.RecReads'. -/
def recReadsCard : Claim7 := { stood := { row := recReadsRow, standIns := [], harness := (true, "c5b39b940852a0f923b24b9b786c11726035ca9059187c3120d977d6cac14dd3"), looks := true }, kinds := [], alts := [], laidByText := true, laidKinds := [.sentinel, .sentinel, .sentinel, .sentinel, .sentinel, .sentinel, .sentinel, .sentinel, .sentinel, .sentinel, .sentinel, .sentinel, .sentinel, .sentinel, .sentinel, .sentinel, .sentinel, .sentinel, .sentinel, .data, .data], laidTests := true, laidLooks := .later }
def RecReadsCardSaid : Prop := Claim7.holds Tryd.pinned (.plain (OpenSpec.ofChange recReadsSpec)) recReadsCard

/-- THE TIED CARD OF 'cordwoodlaw3.RecBack'. -/
def recBackCard : Claim7 := { stood := { row := recBackRow, standIns := [], harness := (true, "c5b39b940852a0f923b24b9b786c11726035ca9059187c3120d977d6cac14dd3"), looks := true }, kinds := [], alts := [], laidByText := true, laidKinds := [.sentinel, .sentinel, .sentinel, .sentinel, .sentinel, .sentinel, .sentinel, .sentinel, .sentinel, .sentinel, .sentinel, .sentinel, .sentinel, .sentinel, .sentinel, .sentinel, .sentinel, .sentinel, .sentinel, .data, .data], laidTests := true, laidLooks := .later }
def RecBackCardSaid : Prop := Claim7.holds Tryd.pinned (.plain (OpenSpec.ofChange recBackSpec)) recBackCard

/-- THE TIED CARD OF 'cordwoodlaw3.RecRows'. -/
def recRowsCard : Claim7 := { stood := { row := recRowsRow, standIns := [], harness := (true, "c5b39b940852a0f923b24b9b786c11726035ca9059187c3120d977d6cac14dd3"), looks := true }, kinds := [], alts := [], laidByText := true, laidKinds := [.sentinel, .sentinel, .sentinel, .sentinel, .sentinel, .sentinel, .sentinel, .sentinel, .sentinel, .sentinel, .sentinel, .sentinel, .sentinel, .sentinel, .sentinel, .sentinel, .sentinel, .sentinel, .sentinel, .data, .data], laidTests := true, laidLooks := .later }
def RecRowsCardSaid : Prop := Claim7.holds Tryd.pinned (.plain (OpenSpec.ofChange recRowsSpec)) recRowsCard

/-- THE TIED CARD OF 'cordwoodlaw3.RecEach'. -/
def recEachCard : Claim7 := { stood := { row := recEachRow, standIns := [], harness := (true, "c5b39b940852a0f923b24b9b786c11726035ca9059187c3120d977d6cac14dd3"), looks := true }, kinds := [], alts := [], laidByText := true, laidKinds := [.sentinel, .sentinel, .data, .data], laidTests := true, laidLooks := .later }
def RecEachCardSaid : Prop := Claim7.holds Tryd.pinned (.plain (OpenSpec.ofChange recEachSpec)) recEachCard

/-- THE TIED CARD OF 'cordwoodlaw3.RecBounds'. -/
def recBoundsCard : Claim7 := { stood := { row := recBoundsRow, standIns := [], harness := (true, "c5b39b940852a0f923b24b9b786c11726035ca9059187c3120d977d6cac14dd3"), looks := true }, kinds := [], alts := [], laidByText := true, laidKinds := [.sentinel, .sentinel, .sentinel, .sentinel, .sentinel, .sentinel, .sentinel, .sentinel, .sentinel, .sentinel, .sentinel, .sentinel, .sentinel, .sentinel, .sentinel, .sentinel, .sentinel, .sentinel, .sentinel, .data, .data], laidTests := true, laidLooks := .later }
def RecBoundsCardSaid : Prop := Claim7.holds Tryd.pinned (.plain (OpenSpec.ofChange recBoundsSpec)) recBoundsCard

/-- THE TIED CARD OF 'cordwoodlaw3.RecTimes'. -/
def recTimesCard : Claim7 := { stood := { row := recTimesRow, standIns := [], harness := (true, "c5b39b940852a0f923b24b9b786c11726035ca9059187c3120d977d6cac14dd3"), looks := true }, kinds := [], alts := [], laidByText := true, laidKinds := [.sentinel, .sentinel, .sentinel, .sentinel, .sentinel, .data, .data], laidTests := true, laidLooks := .later }
def RecTimesCardSaid : Prop := Claim7.holds Tryd.pinned (.plain (OpenSpec.ofChange recTimesSpec)) recTimesCard

/-- THE TIED CARD OF 'cordwoodlaw3.RecSpoilt'. -/
def recSpoiltCard : Claim7 := { stood := { row := recSpoiltRow, standIns := [], harness := (true, "c5b39b940852a0f923b24b9b786c11726035ca9059187c3120d977d6cac14dd3"), looks := true }, kinds := [], alts := [], laidByText := true, laidKinds := [.sentinel, .sentinel, .sentinel, .sentinel, .sentinel, .sentinel, .sentinel, .sentinel, .sentinel, .sentinel, .sentinel, .sentinel, .sentinel, .sentinel, .sentinel, .sentinel, .sentinel, .sentinel, .sentinel, .data, .data], laidTests := true, laidLooks := .later }
def RecSpoiltCardSaid : Prop := Claim7.holds Tryd.pinned (.plain (OpenSpec.ofChange recSpoiltSpec)) recSpoiltCard

/-- THE TIED CARD OF 'cordwoodlaw1.CrcParts'. -/
def crcPartsCard : Claim7 := { stood := { row := crcPartsRow, standIns := [], harness := (true, "c5b39b940852a0f923b24b9b786c11726035ca9059187c3120d977d6cac14dd3"), looks := true }, kinds := [], alts := [], laidByText := true, laidKinds := [.data, .data], laidTests := true, laidLooks := .later }
def CrcPartsCardSaid : Prop := Claim7.holds Tryd.pinned (.plain (OpenSpec.ofChange crcPartsSpec)) crcPartsCard

/-- THE TIED CARD OF 'cordwoodlaw1.CrcBytes'. -/
def crcBytesCard : Claim7 := { stood := { row := crcBytesRow, standIns := [], harness := (true, "c5b39b940852a0f923b24b9b786c11726035ca9059187c3120d977d6cac14dd3"), looks := true }, kinds := [], alts := [], laidByText := true, laidKinds := [.sentinel, .sentinel, .sentinel, .sentinel, .sentinel, .sentinel, .sentinel, .sentinel, .sentinel, .sentinel, .sentinel, .sentinel, .sentinel, .sentinel, .sentinel, .sentinel, .sentinel, .sentinel, .sentinel, .data, .data], laidTests := true, laidLooks := .later }
def CrcBytesCardSaid : Prop := Claim7.holds Tryd.pinned (.plain (OpenSpec.ofChange crcBytesSpec)) crcBytesCard

/-- THE TIED CARD OF 'cordwoodlaw2.VintSays'. -/
def vintSaysCard : Claim7 := { stood := { row := vintSaysRow, standIns := [], harness := (true, "c5b39b940852a0f923b24b9b786c11726035ca9059187c3120d977d6cac14dd3"), looks := true }, kinds := [], alts := [], laidByText := true, laidKinds := [.sentinel, .sentinel, .sentinel, .sentinel, .sentinel, .sentinel, .sentinel, .sentinel, .sentinel, .sentinel, .sentinel, .sentinel, .sentinel, .sentinel, .sentinel, .sentinel, .sentinel, .sentinel, .sentinel], laidTests := true, laidLooks := .later }
def VintSaysCardSaid : Prop := Claim7.holds Tryd.pinned (.plain (OpenSpec.ofChange vintSaysSpec)) vintSaysCard

/-- THE TIED CARD OF 'cordwoodlaw2.VintReads'. -/
def vintReadsCard : Claim7 := { stood := { row := vintReadsRow, standIns := [], harness := (true, "c5b39b940852a0f923b24b9b786c11726035ca9059187c3120d977d6cac14dd3"), looks := true }, kinds := [], alts := [], laidByText := true, laidKinds := [.sentinel, .sentinel, .sentinel, .sentinel, .sentinel, .sentinel, .sentinel, .sentinel, .sentinel, .sentinel, .sentinel, .sentinel, .sentinel, .sentinel, .sentinel, .sentinel, .sentinel, .sentinel, .sentinel], laidTests := true, laidLooks := .later }
def VintReadsCardSaid : Prop := Claim7.holds Tryd.pinned (.plain (OpenSpec.ofChange vintReadsSpec)) vintReadsCard

/-- THE TIED CARD OF 'cordwoodlaw2.VintRows'. -/
def vintRowsCard : Claim7 := { stood := { row := vintRowsRow, standIns := [], harness := (true, "c5b39b940852a0f923b24b9b786c11726035ca9059187c3120d977d6cac14dd3"), looks := true }, kinds := [], alts := [], laidByText := true, laidKinds := [.sentinel, .sentinel, .sentinel, .sentinel, .sentinel, .sentinel, .sentinel, .sentinel, .sentinel, .sentinel, .sentinel, .sentinel, .sentinel, .sentinel, .sentinel, .sentinel, .sentinel, .sentinel, .sentinel], laidTests := true, laidLooks := .later }
def VintRowsCardSaid : Prop := Claim7.holds Tryd.pinned (.plain (OpenSpec.ofChange vintRowsSpec)) vintRowsCard

/-- THE SECOND FORM's CARD OF 'cordwoodlaw3.RecReads'. -/
def recReadsUptoCard : Claim7 := { stood := { row := recReadsUptoRow, standIns := [], harness := (true, "c5b39b940852a0f923b24b9b786c11726035ca9059187c3120d977d6cac14dd3"), looks := true }, kinds := [], alts := [], laidByText := true, laidKinds := [.sentinel, .sentinel, .sentinel, .sentinel, .sentinel, .sentinel, .sentinel, .sentinel, .sentinel, .sentinel, .sentinel, .sentinel, .sentinel, .sentinel, .sentinel, .sentinel, .sentinel, .sentinel, .sentinel, .data, .data], laidTests := true, laidLooks := .later }
def RecReadsUptoCardSaid : Prop := Claim7.holds Tryd.pinned (.plain (OpenSpec.upto recReadsSpec)) recReadsUptoCard

/-- THE SECOND FORM's CARD OF 'cordwoodlaw3.RecBack'. -/
def recBackUptoCard : Claim7 := { stood := { row := recBackUptoRow, standIns := [], harness := (true, "c5b39b940852a0f923b24b9b786c11726035ca9059187c3120d977d6cac14dd3"), looks := true }, kinds := [], alts := [], laidByText := true, laidKinds := [.sentinel, .sentinel, .sentinel, .sentinel, .sentinel, .sentinel, .sentinel, .sentinel, .sentinel, .sentinel, .sentinel, .sentinel, .sentinel, .sentinel, .sentinel, .sentinel, .sentinel, .sentinel, .sentinel, .data, .data], laidTests := true, laidLooks := .later }
def RecBackUptoCardSaid : Prop := Claim7.holds Tryd.pinned (.plain (OpenSpec.upto recBackSpec)) recBackUptoCard

/-- THE SECOND FORM's CARD OF 'cordwoodlaw3.RecRows'. -/
def recRowsUptoCard : Claim7 := { stood := { row := recRowsUptoRow, standIns := [], harness := (true, "c5b39b940852a0f923b24b9b786c11726035ca9059187c3120d977d6cac14dd3"), looks := true }, kinds := [], alts := [], laidByText := true, laidKinds := [.sentinel, .sentinel, .sentinel, .sentinel, .sentinel, .sentinel, .sentinel, .sentinel, .sentinel, .sentinel, .sentinel, .sentinel, .sentinel, .sentinel, .sentinel, .sentinel, .sentinel, .sentinel, .sentinel, .data, .data], laidTests := true, laidLooks := .later }
def RecRowsUptoCardSaid : Prop := Claim7.holds Tryd.pinned (.plain (OpenSpec.upto recRowsSpec)) recRowsUptoCard

/-- THE SECOND FORM's CARD OF 'cordwoodlaw3.RecEach'. -/
def recEachUptoCard : Claim7 := { stood := { row := recEachUptoRow, standIns := [], harness := (true, "c5b39b940852a0f923b24b9b786c11726035ca9059187c3120d977d6cac14dd3"), looks := true }, kinds := [], alts := [], laidByText := true, laidKinds := [.sentinel, .sentinel, .data, .data], laidTests := true, laidLooks := .later }
def RecEachUptoCardSaid : Prop := Claim7.holds Tryd.pinned (.plain (OpenSpec.upto recEachSpec)) recEachUptoCard

/-- THE SECOND FORM's CARD OF 'cordwoodlaw3.RecBounds'. -/
def recBoundsUptoCard : Claim7 := { stood := { row := recBoundsUptoRow, standIns := [], harness := (true, "c5b39b940852a0f923b24b9b786c11726035ca9059187c3120d977d6cac14dd3"), looks := true }, kinds := [], alts := [], laidByText := true, laidKinds := [.sentinel, .sentinel, .sentinel, .sentinel, .sentinel, .sentinel, .sentinel, .sentinel, .sentinel, .sentinel, .sentinel, .sentinel, .sentinel, .sentinel, .sentinel, .sentinel, .sentinel, .sentinel, .sentinel, .data, .data], laidTests := true, laidLooks := .later }
def RecBoundsUptoCardSaid : Prop := Claim7.holds Tryd.pinned (.plain (OpenSpec.upto recBoundsSpec)) recBoundsUptoCard

/-- THE SECOND FORM's CARD OF 'cordwoodlaw3.RecTimes'. -/
def recTimesUptoCard : Claim7 := { stood := { row := recTimesUptoRow, standIns := [], harness := (true, "c5b39b940852a0f923b24b9b786c11726035ca9059187c3120d977d6cac14dd3"), looks := true }, kinds := [], alts := [], laidByText := true, laidKinds := [.sentinel, .sentinel, .sentinel, .sentinel, .sentinel, .data, .data], laidTests := true, laidLooks := .later }
def RecTimesUptoCardSaid : Prop := Claim7.holds Tryd.pinned (.plain (OpenSpec.upto recTimesSpec)) recTimesUptoCard

/-- THE SECOND FORM's CARD OF 'cordwoodlaw3.RecSpoilt'. -/
def recSpoiltUptoCard : Claim7 := { stood := { row := recSpoiltUptoRow, standIns := [], harness := (true, "c5b39b940852a0f923b24b9b786c11726035ca9059187c3120d977d6cac14dd3"), looks := true }, kinds := [], alts := [], laidByText := true, laidKinds := [.sentinel, .sentinel, .sentinel, .sentinel, .sentinel, .sentinel, .sentinel, .sentinel, .sentinel, .sentinel, .sentinel, .sentinel, .sentinel, .sentinel, .sentinel, .sentinel, .sentinel, .sentinel, .sentinel, .data, .data], laidTests := true, laidLooks := .later }
def RecSpoiltUptoCardSaid : Prop := Claim7.holds Tryd.pinned (.plain (OpenSpec.upto recSpoiltSpec)) recSpoiltUptoCard

/-- THE SECOND FORM's CARD OF 'cordwoodlaw1.CrcParts'. -/
def crcPartsUptoCard : Claim7 := { stood := { row := crcPartsUptoRow, standIns := [], harness := (true, "c5b39b940852a0f923b24b9b786c11726035ca9059187c3120d977d6cac14dd3"), looks := true }, kinds := [], alts := [], laidByText := true, laidKinds := [.data, .data], laidTests := true, laidLooks := .later }
def CrcPartsUptoCardSaid : Prop := Claim7.holds Tryd.pinned (.plain (OpenSpec.upto crcPartsSpec)) crcPartsUptoCard

/-- THE SECOND FORM's CARD OF 'cordwoodlaw1.CrcBytes'. -/
def crcBytesUptoCard : Claim7 := { stood := { row := crcBytesUptoRow, standIns := [], harness := (true, "c5b39b940852a0f923b24b9b786c11726035ca9059187c3120d977d6cac14dd3"), looks := true }, kinds := [], alts := [], laidByText := true, laidKinds := [.sentinel, .sentinel, .sentinel, .sentinel, .sentinel, .sentinel, .sentinel, .sentinel, .sentinel, .sentinel, .sentinel, .sentinel, .sentinel, .sentinel, .sentinel, .sentinel, .sentinel, .sentinel, .sentinel, .data, .data], laidTests := true, laidLooks := .later }
def CrcBytesUptoCardSaid : Prop := Claim7.holds Tryd.pinned (.plain (OpenSpec.upto crcBytesSpec)) crcBytesUptoCard

/-- THE SECOND FORM's CARD OF 'cordwoodlaw2.VintSays'. -/
def vintSaysUptoCard : Claim7 := { stood := { row := vintSaysUptoRow, standIns := [], harness := (true, "c5b39b940852a0f923b24b9b786c11726035ca9059187c3120d977d6cac14dd3"), looks := true }, kinds := [], alts := [], laidByText := true, laidKinds := [.sentinel, .sentinel, .sentinel, .sentinel, .sentinel, .sentinel, .sentinel, .sentinel, .sentinel, .sentinel, .sentinel, .sentinel, .sentinel, .sentinel, .sentinel, .sentinel, .sentinel, .sentinel, .sentinel], laidTests := true, laidLooks := .later }
def VintSaysUptoCardSaid : Prop := Claim7.holds Tryd.pinned (.plain (OpenSpec.upto vintSaysSpec)) vintSaysUptoCard

/-- THE SECOND FORM's CARD OF 'cordwoodlaw2.VintReads'. -/
def vintReadsUptoCard : Claim7 := { stood := { row := vintReadsUptoRow, standIns := [], harness := (true, "c5b39b940852a0f923b24b9b786c11726035ca9059187c3120d977d6cac14dd3"), looks := true }, kinds := [], alts := [], laidByText := true, laidKinds := [.sentinel, .sentinel, .sentinel, .sentinel, .sentinel, .sentinel, .sentinel, .sentinel, .sentinel, .sentinel, .sentinel, .sentinel, .sentinel, .sentinel, .sentinel, .sentinel, .sentinel, .sentinel, .sentinel], laidTests := true, laidLooks := .later }
def VintReadsUptoCardSaid : Prop := Claim7.holds Tryd.pinned (.plain (OpenSpec.upto vintReadsSpec)) vintReadsUptoCard

/-- THE SECOND FORM's CARD OF 'cordwoodlaw2.VintRows'. -/
def vintRowsUptoCard : Claim7 := { stood := { row := vintRowsUptoRow, standIns := [], harness := (true, "c5b39b940852a0f923b24b9b786c11726035ca9059187c3120d977d6cac14dd3"), looks := true }, kinds := [], alts := [], laidByText := true, laidKinds := [.sentinel, .sentinel, .sentinel, .sentinel, .sentinel, .sentinel, .sentinel, .sentinel, .sentinel, .sentinel, .sentinel, .sentinel, .sentinel, .sentinel, .sentinel, .sentinel, .sentinel, .sentinel, .sentinel], laidTests := true, laidLooks := .later }
def VintRowsUptoCardSaid : Prop := Claim7.holds Tryd.pinned (.plain (OpenSpec.upto vintRowsSpec)) vintRowsUptoCard
end Rows
end Go.Proofs.YthemdcdgiccjkaaDoor
