/-
  DERIVED. GIVEN WITH THE SEED: THE CARDS: each row of YtegaahcelogmlaaDoorRows.lean that lists a variable, with what it lists TIED to the program's text (the seventh form; the later family's looks); each row that meets fmt, with fmt's text TOLD by the authors' own Lean function (tested against real Go, not proved from fmt's source: count such statements apart). THE CARD IS WHAT COUNTS. Prove the row's statement (the work); the ties are given (YtegaahcelogmlaaDoorTie.lean); close each card by the builder's one call (the guide's Derived/Test/ToyasCard.lean, 'card_holds'). Laid BY PROGRAM, IN A SANDBOX (cutbox-door.mjs). By AI agents, Wed Nov 11 2026. No macro, syntax, notation, axiom, sorry.
-/
import Derived.Test.YtegaahcelogmlaaDoorRows
import GoSem.ClaimSeven
namespace Go.Proofs.YtegaahcelogmlaaDoor
namespace Rows

/-- THE TIED CARD OF 'cordwoodlaw13.PartMakes'. -/
def partMakesCard : Claim7 := { stood := { row := partMakesRow, standIns := [], harness := (true, "85a5c0b623d6895ba612d8207e8a000313b50b48c27dba6e127e539c26b556e9"), looks := true }, kinds := [], alts := [], laidByText := true, laidKinds := [.data, .sentinel, .sentinel, .sentinel, .sentinel, .sentinel, .sentinel, .sentinel, .sentinel, .sentinel, .sentinel, .sentinel, .sentinel, .sentinel, .sentinel, .sentinel, .sentinel, .sentinel, .sentinel, .sentinel, .data, .data, .pinned], laidTests := true, laidLooks := .later }
def PartMakesCardSaid : Prop := Claim7.holds Tryd.pinned (.plain (OpenSpec.ofChange partMakesSpec)) partMakesCard

/-- THE TIED CARD OF 'cordwoodlaw13.PartAnew'. -/
def partAnewCard : Claim7 := { stood := { row := partAnewRow, standIns := [], harness := (true, "85a5c0b623d6895ba612d8207e8a000313b50b48c27dba6e127e539c26b556e9"), looks := true }, kinds := [], alts := [], laidByText := true, laidKinds := [.data, .sentinel, .sentinel, .sentinel, .sentinel, .sentinel, .sentinel, .sentinel, .sentinel, .sentinel, .sentinel, .sentinel, .sentinel, .sentinel, .sentinel, .sentinel, .sentinel, .sentinel, .sentinel, .sentinel, .data, .data, .pinned], laidTests := true, laidLooks := .later }
def PartAnewCardSaid : Prop := Claim7.holds Tryd.pinned (.plain (OpenSpec.ofChange partAnewSpec)) partAnewCard

/-- THE TIED CARD OF 'cordwoodlaw13.PartCounts'. -/
def partCountsCard : Claim7 := { stood := { row := partCountsRow, standIns := [], harness := (true, "85a5c0b623d6895ba612d8207e8a000313b50b48c27dba6e127e539c26b556e9"), looks := true }, kinds := [], alts := [], laidByText := true, laidKinds := [.data, .sentinel, .sentinel, .sentinel, .sentinel, .sentinel, .data, .data, .pinned], laidTests := true, laidLooks := .later }
def PartCountsCardSaid : Prop := Claim7.holds Tryd.pinned (.plain (OpenSpec.ofChange partCountsSpec)) partCountsCard

/-- THE TIED CARD OF 'cordwoodlaw13.PartLost'. -/
def partLostCard : Claim7 := { stood := { row := partLostRow, standIns := [], harness := (true, "85a5c0b623d6895ba612d8207e8a000313b50b48c27dba6e127e539c26b556e9"), looks := true }, kinds := [], alts := [], laidByText := true, laidKinds := [.data, .sentinel, .sentinel, .sentinel, .sentinel, .sentinel, .sentinel, .sentinel, .sentinel, .sentinel, .sentinel, .sentinel, .sentinel, .sentinel, .sentinel, .sentinel, .sentinel, .sentinel, .sentinel, .sentinel, .data, .data, .pinned], laidTests := true, laidLooks := .later }
def PartLostCardSaid : Prop := Claim7.holds Tryd.pinned (.plain (OpenSpec.ofChange partLostSpec)) partLostCard

/-- THE TIED CARD OF 'cordwoodlaw13.PartTwice'. -/
def partTwiceCard : Claim7 := { stood := { row := partTwiceRow, standIns := [], harness := (true, "85a5c0b623d6895ba612d8207e8a000313b50b48c27dba6e127e539c26b556e9"), looks := true }, kinds := [], alts := [], laidByText := true, laidKinds := [.data, .sentinel, .sentinel, .sentinel, .sentinel, .sentinel, .data, .data, .pinned], laidTests := true, laidLooks := .later }
def PartTwiceCardSaid : Prop := Claim7.holds Tryd.pinned (.plain (OpenSpec.ofChange partTwiceSpec)) partTwiceCard

/-- THE SECOND FORM's CARD OF 'cordwoodlaw13.PartMakes'. -/
def partMakesUptoCard : Claim7 := { stood := { row := partMakesUptoRow, standIns := [], harness := (true, "85a5c0b623d6895ba612d8207e8a000313b50b48c27dba6e127e539c26b556e9"), looks := true }, kinds := [], alts := [], laidByText := true, laidKinds := [.data, .sentinel, .sentinel, .sentinel, .sentinel, .sentinel, .sentinel, .sentinel, .sentinel, .sentinel, .sentinel, .sentinel, .sentinel, .sentinel, .sentinel, .sentinel, .sentinel, .sentinel, .sentinel, .sentinel, .data, .data, .pinned], laidTests := true, laidLooks := .later }
def PartMakesUptoCardSaid : Prop := Claim7.holds Tryd.pinned (.plain (OpenSpec.upto partMakesSpec)) partMakesUptoCard

/-- THE SECOND FORM's CARD OF 'cordwoodlaw13.PartAnew'. -/
def partAnewUptoCard : Claim7 := { stood := { row := partAnewUptoRow, standIns := [], harness := (true, "85a5c0b623d6895ba612d8207e8a000313b50b48c27dba6e127e539c26b556e9"), looks := true }, kinds := [], alts := [], laidByText := true, laidKinds := [.data, .sentinel, .sentinel, .sentinel, .sentinel, .sentinel, .sentinel, .sentinel, .sentinel, .sentinel, .sentinel, .sentinel, .sentinel, .sentinel, .sentinel, .sentinel, .sentinel, .sentinel, .sentinel, .sentinel, .data, .data, .pinned], laidTests := true, laidLooks := .later }
def PartAnewUptoCardSaid : Prop := Claim7.holds Tryd.pinned (.plain (OpenSpec.upto partAnewSpec)) partAnewUptoCard

/-- THE SECOND FORM's CARD OF 'cordwoodlaw13.PartCounts'. -/
def partCountsUptoCard : Claim7 := { stood := { row := partCountsUptoRow, standIns := [], harness := (true, "85a5c0b623d6895ba612d8207e8a000313b50b48c27dba6e127e539c26b556e9"), looks := true }, kinds := [], alts := [], laidByText := true, laidKinds := [.data, .sentinel, .sentinel, .sentinel, .sentinel, .sentinel, .data, .data, .pinned], laidTests := true, laidLooks := .later }
def PartCountsUptoCardSaid : Prop := Claim7.holds Tryd.pinned (.plain (OpenSpec.upto partCountsSpec)) partCountsUptoCard

/-- THE SECOND FORM's CARD OF 'cordwoodlaw13.PartLost'. -/
def partLostUptoCard : Claim7 := { stood := { row := partLostUptoRow, standIns := [], harness := (true, "85a5c0b623d6895ba612d8207e8a000313b50b48c27dba6e127e539c26b556e9"), looks := true }, kinds := [], alts := [], laidByText := true, laidKinds := [.data, .sentinel, .sentinel, .sentinel, .sentinel, .sentinel, .sentinel, .sentinel, .sentinel, .sentinel, .sentinel, .sentinel, .sentinel, .sentinel, .sentinel, .sentinel, .sentinel, .sentinel, .sentinel, .sentinel, .data, .data, .pinned], laidTests := true, laidLooks := .later }
def PartLostUptoCardSaid : Prop := Claim7.holds Tryd.pinned (.plain (OpenSpec.upto partLostSpec)) partLostUptoCard

/-- THE SECOND FORM's CARD OF 'cordwoodlaw13.PartTwice'. -/
def partTwiceUptoCard : Claim7 := { stood := { row := partTwiceUptoRow, standIns := [], harness := (true, "85a5c0b623d6895ba612d8207e8a000313b50b48c27dba6e127e539c26b556e9"), looks := true }, kinds := [], alts := [], laidByText := true, laidKinds := [.data, .sentinel, .sentinel, .sentinel, .sentinel, .sentinel, .data, .data, .pinned], laidTests := true, laidLooks := .later }
def PartTwiceUptoCardSaid : Prop := Claim7.holds Tryd.pinned (.plain (OpenSpec.upto partTwiceSpec)) partTwiceUptoCard
end Rows
end Go.Proofs.YtegaahcelogmlaaDoor
