/-
  DERIVED. GIVEN WITH THE SEED: THE CARDS: each row of YtplpakdbahlgaaaDoorRows.lean that lists a variable, with what it lists TIED to the program's text (the seventh form; the later family's looks); each row that meets fmt, with fmt's text TOLD by the authors' own Lean function (tested against real Go, not proved from fmt's source: count such statements apart). THE CARD IS WHAT COUNTS. Prove the row's statement (the work); the ties are given (YtplpakdbahlgaaaDoorTie.lean); close each card by the builder's one call (the guide's Derived/Test/ToyasCard.lean, 'card_holds'). Laid BY PROGRAM, IN A SANDBOX (cutbox-door.mjs). By AI agents, Wed Nov 11 2026. No macro, syntax, notation, axiom, sorry.
-/
import Derived.Test.YtplpakdbahlgaaaDoorRows
import GoSem.ClaimSeven
namespace Go.Proofs.YtplpakdbahlgaaaDoor
namespace Rows

/-- THE TIED CARD OF 'cordwoodlaw9.EpochPlays'. -/
def epochPlaysCard : Claim7 := { stood := { row := epochPlaysRow, standIns := [], harness := (true, "4277e3a79aa62a0c3367ff884e0219dba093bb200ccf91f7b26e00c7eb813926"), looks := true }, kinds := [], alts := [], laidByText := true, laidKinds := [.sentinel, .sentinel, .sentinel, .sentinel, .sentinel, .sentinel, .sentinel, .sentinel, .sentinel, .sentinel, .sentinel, .sentinel, .sentinel, .sentinel, .sentinel, .sentinel, .sentinel, .sentinel, .sentinel], laidTests := true, laidLooks := .later }
def EpochPlaysCardSaid : Prop := Claim7.holds Tryd.pinned (.plain (OpenSpec.ofChange epochPlaysSpec)) epochPlaysCard

/-- THE TIED CARD OF 'cordwoodlaw9.EpochBytes'. -/
def epochBytesCard : Claim7 := { stood := { row := epochBytesRow, standIns := [], harness := (true, "4277e3a79aa62a0c3367ff884e0219dba093bb200ccf91f7b26e00c7eb813926"), looks := true }, kinds := [], alts := [], laidByText := true, laidKinds := [.sentinel, .sentinel, .sentinel, .sentinel, .sentinel, .sentinel, .sentinel, .sentinel, .sentinel, .sentinel, .sentinel, .sentinel, .sentinel, .sentinel, .sentinel, .sentinel, .sentinel, .sentinel, .sentinel], laidTests := true, laidLooks := .later }
def EpochBytesCardSaid : Prop := Claim7.holds Tryd.pinned (.plain (OpenSpec.ofChange epochBytesSpec)) epochBytesCard

/-- THE TIED CARD OF 'cordwoodlaw9.EpochSpans'. -/
def epochSpansCard : Claim7 := { stood := { row := epochSpansRow, standIns := [], harness := (true, "4277e3a79aa62a0c3367ff884e0219dba093bb200ccf91f7b26e00c7eb813926"), looks := true }, kinds := [], alts := [], laidByText := true, laidKinds := [.sentinel, .sentinel, .sentinel, .sentinel], laidTests := true, laidLooks := .later }
def EpochSpansCardSaid : Prop := Claim7.holds Tryd.pinned (.plain (OpenSpec.ofChange epochSpansSpec)) epochSpansCard

/-- THE TIED CARD OF 'cordwoodlaw9.EpochLeads'. -/
def epochLeadsCard : Claim7 := { stood := { row := epochLeadsRow, standIns := [], harness := (true, "4277e3a79aa62a0c3367ff884e0219dba093bb200ccf91f7b26e00c7eb813926"), looks := true }, kinds := [], alts := [], laidByText := true, laidKinds := [.sentinel, .sentinel, .sentinel, .sentinel, .sentinel, .sentinel, .sentinel, .sentinel, .sentinel, .sentinel, .sentinel, .sentinel, .sentinel, .sentinel, .sentinel, .sentinel, .sentinel, .sentinel, .sentinel], laidTests := true, laidLooks := .later }
def EpochLeadsCardSaid : Prop := Claim7.holds Tryd.pinned (.plain (OpenSpec.ofChange epochLeadsSpec)) epochLeadsCard

/-- THE TIED CARD OF 'cordwoodlaw9.EpochCuts'. -/
def epochCutsCard : Claim7 := { stood := { row := epochCutsRow, standIns := [], harness := (true, "4277e3a79aa62a0c3367ff884e0219dba093bb200ccf91f7b26e00c7eb813926"), looks := true }, kinds := [], alts := [], laidByText := true, laidKinds := [.sentinel, .sentinel, .sentinel], laidTests := true, laidLooks := .later }
def EpochCutsCardSaid : Prop := Claim7.holds Tryd.pinned (.plain (OpenSpec.ofChange epochCutsSpec)) epochCutsCard

/-- THE TIED CARD OF 'cordwoodlaw9.EpochEnds'. -/
def epochEndsCard : Claim7 := { stood := { row := epochEndsRow, standIns := [], harness := (true, "4277e3a79aa62a0c3367ff884e0219dba093bb200ccf91f7b26e00c7eb813926"), looks := true }, kinds := [], alts := [], laidByText := true, laidKinds := [.sentinel, .sentinel, .sentinel], laidTests := true, laidLooks := .later }
def EpochEndsCardSaid : Prop := Claim7.holds Tryd.pinned (.plain (OpenSpec.ofChange epochEndsSpec)) epochEndsCard

/-- THE TIED CARD OF 'cordwoodlaw9.EpochMany'. -/
def epochManyCard : Claim7 := { stood := { row := epochManyRow, standIns := [], harness := (true, "4277e3a79aa62a0c3367ff884e0219dba093bb200ccf91f7b26e00c7eb813926"), looks := true }, kinds := [], alts := [], laidByText := true, laidKinds := [.sentinel, .sentinel, .sentinel, .sentinel, .sentinel], laidTests := true, laidLooks := .later }
def EpochManyCardSaid : Prop := Claim7.holds Tryd.pinned (.plain (OpenSpec.ofChange epochManySpec)) epochManyCard

/-- THE SECOND FORM's CARD OF 'cordwoodlaw9.EpochPlays'. -/
def epochPlaysUptoCard : Claim7 := { stood := { row := epochPlaysUptoRow, standIns := [], harness := (true, "4277e3a79aa62a0c3367ff884e0219dba093bb200ccf91f7b26e00c7eb813926"), looks := true }, kinds := [], alts := [], laidByText := true, laidKinds := [.sentinel, .sentinel, .sentinel, .sentinel, .sentinel, .sentinel, .sentinel, .sentinel, .sentinel, .sentinel, .sentinel, .sentinel, .sentinel, .sentinel, .sentinel, .sentinel, .sentinel, .sentinel, .sentinel], laidTests := true, laidLooks := .later }
def EpochPlaysUptoCardSaid : Prop := Claim7.holds Tryd.pinned (.plain (OpenSpec.upto epochPlaysSpec)) epochPlaysUptoCard

/-- THE SECOND FORM's CARD OF 'cordwoodlaw9.EpochBytes'. -/
def epochBytesUptoCard : Claim7 := { stood := { row := epochBytesUptoRow, standIns := [], harness := (true, "4277e3a79aa62a0c3367ff884e0219dba093bb200ccf91f7b26e00c7eb813926"), looks := true }, kinds := [], alts := [], laidByText := true, laidKinds := [.sentinel, .sentinel, .sentinel, .sentinel, .sentinel, .sentinel, .sentinel, .sentinel, .sentinel, .sentinel, .sentinel, .sentinel, .sentinel, .sentinel, .sentinel, .sentinel, .sentinel, .sentinel, .sentinel], laidTests := true, laidLooks := .later }
def EpochBytesUptoCardSaid : Prop := Claim7.holds Tryd.pinned (.plain (OpenSpec.upto epochBytesSpec)) epochBytesUptoCard

/-- THE SECOND FORM's CARD OF 'cordwoodlaw9.EpochSpans'. -/
def epochSpansUptoCard : Claim7 := { stood := { row := epochSpansUptoRow, standIns := [], harness := (true, "4277e3a79aa62a0c3367ff884e0219dba093bb200ccf91f7b26e00c7eb813926"), looks := true }, kinds := [], alts := [], laidByText := true, laidKinds := [.sentinel, .sentinel, .sentinel, .sentinel], laidTests := true, laidLooks := .later }
def EpochSpansUptoCardSaid : Prop := Claim7.holds Tryd.pinned (.plain (OpenSpec.upto epochSpansSpec)) epochSpansUptoCard

/-- THE SECOND FORM's CARD OF 'cordwoodlaw9.EpochLeads'. -/
def epochLeadsUptoCard : Claim7 := { stood := { row := epochLeadsUptoRow, standIns := [], harness := (true, "4277e3a79aa62a0c3367ff884e0219dba093bb200ccf91f7b26e00c7eb813926"), looks := true }, kinds := [], alts := [], laidByText := true, laidKinds := [.sentinel, .sentinel, .sentinel, .sentinel, .sentinel, .sentinel, .sentinel, .sentinel, .sentinel, .sentinel, .sentinel, .sentinel, .sentinel, .sentinel, .sentinel, .sentinel, .sentinel, .sentinel, .sentinel], laidTests := true, laidLooks := .later }
def EpochLeadsUptoCardSaid : Prop := Claim7.holds Tryd.pinned (.plain (OpenSpec.upto epochLeadsSpec)) epochLeadsUptoCard

/-- THE SECOND FORM's CARD OF 'cordwoodlaw9.EpochCuts'. -/
def epochCutsUptoCard : Claim7 := { stood := { row := epochCutsUptoRow, standIns := [], harness := (true, "4277e3a79aa62a0c3367ff884e0219dba093bb200ccf91f7b26e00c7eb813926"), looks := true }, kinds := [], alts := [], laidByText := true, laidKinds := [.sentinel, .sentinel, .sentinel], laidTests := true, laidLooks := .later }
def EpochCutsUptoCardSaid : Prop := Claim7.holds Tryd.pinned (.plain (OpenSpec.upto epochCutsSpec)) epochCutsUptoCard

/-- THE SECOND FORM's CARD OF 'cordwoodlaw9.EpochEnds'. -/
def epochEndsUptoCard : Claim7 := { stood := { row := epochEndsUptoRow, standIns := [], harness := (true, "4277e3a79aa62a0c3367ff884e0219dba093bb200ccf91f7b26e00c7eb813926"), looks := true }, kinds := [], alts := [], laidByText := true, laidKinds := [.sentinel, .sentinel, .sentinel], laidTests := true, laidLooks := .later }
def EpochEndsUptoCardSaid : Prop := Claim7.holds Tryd.pinned (.plain (OpenSpec.upto epochEndsSpec)) epochEndsUptoCard

/-- THE SECOND FORM's CARD OF 'cordwoodlaw9.EpochMany'. -/
def epochManyUptoCard : Claim7 := { stood := { row := epochManyUptoRow, standIns := [], harness := (true, "4277e3a79aa62a0c3367ff884e0219dba093bb200ccf91f7b26e00c7eb813926"), looks := true }, kinds := [], alts := [], laidByText := true, laidKinds := [.sentinel, .sentinel, .sentinel, .sentinel, .sentinel], laidTests := true, laidLooks := .later }
def EpochManyUptoCardSaid : Prop := Claim7.holds Tryd.pinned (.plain (OpenSpec.upto epochManySpec)) epochManyUptoCard
end Rows
end Go.Proofs.YtplpakdbahlgaaaDoor
