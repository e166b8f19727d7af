/-
  DERIVED. GIVEN WITH THE SEED: THE CARDS: each row of YthlclknbehfloaaDoorRows.lean that lists a variable, with what it lists TIED to the program's text (the seventh form; the later family's looks); each row that meets fmt, with fmt's text TOLD by the authors' own Lean function (tested against real Go, not proved from fmt's source: count such statements apart). THE CARD IS WHAT COUNTS. Prove the row's statement (the work); the ties are given (YthlclknbehfloaaDoorTie.lean); close each card by the builder's one call (the guide's Derived/Test/ToyasCard.lean, 'card_holds'). Laid BY PROGRAM, IN A SANDBOX (cutbox-door.mjs). By AI agents, Wed Nov 11 2026. No macro, syntax, notation, axiom, sorry.
-/
import Derived.Test.YthlclknbehfloaaDoorRows
import GoSem.ClaimSeven
namespace Go.Proofs.YthlclknbehfloaaDoor
namespace Rows

/-- THE TIED CARD OF 'cordwoodlaw11.StoreCopies'. -/
def storeCopiesCard : Claim7 := { stood := { row := storeCopiesRow, standIns := [], harness := (true, "24418e5cd4ca7f05ba40c89f610ad3710ee84dc24af3ede6917908134da8b901"), looks := true }, kinds := [], alts := [], laidByText := true, laidKinds := [.sentinel, .sentinel, .sentinel, .sentinel, .sentinel, .sentinel, .sentinel, .sentinel, .sentinel, .sentinel, .sentinel, .sentinel, .sentinel, .sentinel, .sentinel, .sentinel, .sentinel, .sentinel, .sentinel, .data, .data], laidTests := true, laidLooks := .later }
def StoreCopiesCardSaid : Prop := Claim7.holds Tryd.pinned (.plain (OpenSpec.ofChange storeCopiesSpec)) storeCopiesCard

/-- THE TIED CARD OF 'cordwoodlaw12.CallEnds'. -/
def callEndsCard : Claim7 := { stood := { row := callEndsRow, standIns := [], harness := (true, "24418e5cd4ca7f05ba40c89f610ad3710ee84dc24af3ede6917908134da8b901"), looks := true }, kinds := [], alts := [], laidByText := true, laidKinds := [.sentinel, .sentinel, .sentinel, .sentinel, .sentinel, .sentinel, .sentinel, .sentinel, .sentinel, .sentinel, .sentinel, .sentinel, .sentinel, .sentinel, .sentinel, .sentinel, .sentinel, .sentinel, .sentinel], laidTests := true, laidLooks := .later }
def CallEndsCardSaid : Prop := Claim7.holds Tryd.pinned (.plain (OpenSpec.ofChange callEndsSpec)) callEndsCard

/-- THE TIED CARD OF 'cordwoodlaw12.CallTwice'. -/
def callTwiceCard : Claim7 := { stood := { row := callTwiceRow, standIns := [], harness := (true, "24418e5cd4ca7f05ba40c89f610ad3710ee84dc24af3ede6917908134da8b901"), looks := true }, kinds := [], alts := [], laidByText := true, laidKinds := [.sentinel, .sentinel, .sentinel, .sentinel, .sentinel, .sentinel, .sentinel, .sentinel, .sentinel, .sentinel, .sentinel, .sentinel, .sentinel, .sentinel, .sentinel, .sentinel, .sentinel, .sentinel, .sentinel, .data, .data], laidTests := true, laidLooks := .later }
def CallTwiceCardSaid : Prop := Claim7.holds Tryd.pinned (.plain (OpenSpec.ofChange callTwiceSpec)) callTwiceCard

/-- THE TIED CARD OF 'cordwoodlaw12.CallCounts'. -/
def callCountsCard : Claim7 := { stood := { row := callCountsRow, standIns := [], harness := (true, "24418e5cd4ca7f05ba40c89f610ad3710ee84dc24af3ede6917908134da8b901"), looks := true }, kinds := [], alts := [], laidByText := true, laidKinds := [.sentinel, .sentinel, .sentinel], laidTests := true, laidLooks := .later }
def CallCountsCardSaid : Prop := Claim7.holds Tryd.pinned (.plain (OpenSpec.ofChange callCountsSpec)) callCountsCard

/-- THE TIED CARD OF 'cordwoodlaw12.CallStarts'. -/
def callStartsCard : Claim7 := { stood := { row := callStartsRow, standIns := [], harness := (true, "24418e5cd4ca7f05ba40c89f610ad3710ee84dc24af3ede6917908134da8b901"), looks := true }, kinds := [], alts := [], laidByText := true, laidKinds := [.sentinel, .sentinel, .sentinel, .sentinel, .sentinel, .sentinel, .sentinel, .sentinel, .sentinel, .sentinel, .sentinel, .sentinel, .sentinel, .sentinel, .sentinel, .sentinel, .sentinel, .sentinel, .sentinel], laidTests := true, laidLooks := .later }
def CallStartsCardSaid : Prop := Claim7.holds Tryd.pinned (.plain (OpenSpec.ofChange callStartsSpec)) callStartsCard

/-- THE SECOND FORM's CARD OF 'cordwoodlaw11.StoreCopies'. -/
def storeCopiesUptoCard : Claim7 := { stood := { row := storeCopiesUptoRow, standIns := [], harness := (true, "24418e5cd4ca7f05ba40c89f610ad3710ee84dc24af3ede6917908134da8b901"), looks := true }, kinds := [], alts := [], laidByText := true, laidKinds := [.sentinel, .sentinel, .sentinel, .sentinel, .sentinel, .sentinel, .sentinel, .sentinel, .sentinel, .sentinel, .sentinel, .sentinel, .sentinel, .sentinel, .sentinel, .sentinel, .sentinel, .sentinel, .sentinel, .data, .data], laidTests := true, laidLooks := .later }
def StoreCopiesUptoCardSaid : Prop := Claim7.holds Tryd.pinned (.plain (OpenSpec.upto storeCopiesSpec)) storeCopiesUptoCard

/-- THE SECOND FORM's CARD OF 'cordwoodlaw12.CallEnds'. -/
def callEndsUptoCard : Claim7 := { stood := { row := callEndsUptoRow, standIns := [], harness := (true, "24418e5cd4ca7f05ba40c89f610ad3710ee84dc24af3ede6917908134da8b901"), looks := true }, kinds := [], alts := [], laidByText := true, laidKinds := [.sentinel, .sentinel, .sentinel, .sentinel, .sentinel, .sentinel, .sentinel, .sentinel, .sentinel, .sentinel, .sentinel, .sentinel, .sentinel, .sentinel, .sentinel, .sentinel, .sentinel, .sentinel, .sentinel], laidTests := true, laidLooks := .later }
def CallEndsUptoCardSaid : Prop := Claim7.holds Tryd.pinned (.plain (OpenSpec.upto callEndsSpec)) callEndsUptoCard

/-- THE SECOND FORM's CARD OF 'cordwoodlaw12.CallTwice'. -/
def callTwiceUptoCard : Claim7 := { stood := { row := callTwiceUptoRow, standIns := [], harness := (true, "24418e5cd4ca7f05ba40c89f610ad3710ee84dc24af3ede6917908134da8b901"), looks := true }, kinds := [], alts := [], laidByText := true, laidKinds := [.sentinel, .sentinel, .sentinel, .sentinel, .sentinel, .sentinel, .sentinel, .sentinel, .sentinel, .sentinel, .sentinel, .sentinel, .sentinel, .sentinel, .sentinel, .sentinel, .sentinel, .sentinel, .sentinel, .data, .data], laidTests := true, laidLooks := .later }
def CallTwiceUptoCardSaid : Prop := Claim7.holds Tryd.pinned (.plain (OpenSpec.upto callTwiceSpec)) callTwiceUptoCard

/-- THE SECOND FORM's CARD OF 'cordwoodlaw12.CallCounts'. -/
def callCountsUptoCard : Claim7 := { stood := { row := callCountsUptoRow, standIns := [], harness := (true, "24418e5cd4ca7f05ba40c89f610ad3710ee84dc24af3ede6917908134da8b901"), looks := true }, kinds := [], alts := [], laidByText := true, laidKinds := [.sentinel, .sentinel, .sentinel], laidTests := true, laidLooks := .later }
def CallCountsUptoCardSaid : Prop := Claim7.holds Tryd.pinned (.plain (OpenSpec.upto callCountsSpec)) callCountsUptoCard

/-- THE SECOND FORM's CARD OF 'cordwoodlaw12.CallStarts'. -/
def callStartsUptoCard : Claim7 := { stood := { row := callStartsUptoRow, standIns := [], harness := (true, "24418e5cd4ca7f05ba40c89f610ad3710ee84dc24af3ede6917908134da8b901"), looks := true }, kinds := [], alts := [], laidByText := true, laidKinds := [.sentinel, .sentinel, .sentinel, .sentinel, .sentinel, .sentinel, .sentinel, .sentinel, .sentinel, .sentinel, .sentinel, .sentinel, .sentinel, .sentinel, .sentinel, .sentinel, .sentinel, .sentinel, .sentinel], laidTests := true, laidLooks := .later }
def CallStartsUptoCardSaid : Prop := Claim7.holds Tryd.pinned (.plain (OpenSpec.upto callStartsSpec)) callStartsUptoCard
end Rows
end Go.Proofs.YthlclknbehfloaaDoor
