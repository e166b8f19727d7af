/-
  DERIVED. GIVEN WITH THE SEED: THE CARDS: each row of YtkddlimhmjabcaaDoorRows.lean that lists a variable, with what it lists TIED to the program's text (the seventh form; the later family's looks); each row that meets fmt, with fmt's text TOLD by the authors' own Lean function (tested against real Go, not proved from fmt's source: count such statements apart). THE CARD IS WHAT COUNTS. Prove the row's statement (the work); the ties are given (YtkddlimhmjabcaaDoorTie.lean); close each card by the builder's one call (the guide's Derived/Test/ToyasCard.lean, 'card_holds'). Laid BY PROGRAM, IN A SANDBOX (cutbox-door.mjs). By AI agents, Wed Nov 11 2026. No macro, syntax, notation, axiom, sorry.
-/
import Derived.Test.YtkddlimhmjabcaaDoorRows
import GoSem.ClaimSeven
namespace Go.Proofs.YtkddlimhmjabcaaDoor
namespace Rows

/-- THE TIED CARD OF 'cordwoodlaw1.CrcSays'. -/
def crcSaysCard : Claim7 := { stood := { row := crcSaysRow, standIns := [], harness := (true, "10fdd7ae600e41f377965c13febb73a93b74dad3f310e7ca5d37ce3a1557c400"), looks := true }, kinds := [], alts := [], laidByText := true, laidKinds := [.sentinel, .sentinel, .sentinel, .sentinel, .sentinel, .sentinel, .sentinel, .sentinel, .sentinel, .sentinel, .sentinel, .sentinel, .sentinel, .sentinel, .sentinel, .sentinel, .sentinel, .sentinel, .sentinel, .data, .data], laidTests := true, laidLooks := .later }
def CrcSaysCardSaid : Prop := Claim7.holds Tryd.pinned (.plain (OpenSpec.ofChange crcSaysSpec)) crcSaysCard

/-- THE TIED CARD OF 'cordwoodlaw1.CrcFinds'. -/
def crcFindsCard : Claim7 := { stood := { row := crcFindsRow, standIns := [], harness := (true, "10fdd7ae600e41f377965c13febb73a93b74dad3f310e7ca5d37ce3a1557c400"), looks := true }, kinds := [], alts := [], laidByText := true, laidKinds := [.sentinel, .sentinel, .sentinel, .sentinel, .sentinel, .sentinel, .sentinel, .sentinel, .sentinel, .sentinel, .sentinel, .sentinel, .sentinel, .sentinel, .sentinel, .sentinel, .sentinel, .sentinel, .sentinel, .data, .data], laidTests := true, laidLooks := .later }
def CrcFindsCardSaid : Prop := Claim7.holds Tryd.pinned (.plain (OpenSpec.ofChange crcFindsSpec)) crcFindsCard

/-- THE TIED CARD OF 'cordwoodlaw1.CrcParts'. -/
def crcPartsCard : Claim7 := { stood := { row := crcPartsRow, standIns := [], harness := (true, "10fdd7ae600e41f377965c13febb73a93b74dad3f310e7ca5d37ce3a1557c400"), looks := true }, kinds := [], alts := [], laidByText := true, laidKinds := [.data, .data], laidTests := true, laidLooks := .later }
def CrcPartsCardSaid : Prop := Claim7.holds Tryd.pinned (.plain (OpenSpec.ofChange crcPartsSpec)) crcPartsCard

/-- THE TIED CARD OF 'cordwoodlaw1.CrcBytes'. -/
def crcBytesCard : Claim7 := { stood := { row := crcBytesRow, standIns := [], harness := (true, "10fdd7ae600e41f377965c13febb73a93b74dad3f310e7ca5d37ce3a1557c400"), looks := true }, kinds := [], alts := [], laidByText := true, laidKinds := [.sentinel, .sentinel, .sentinel, .sentinel, .sentinel, .sentinel, .sentinel, .sentinel, .sentinel, .sentinel, .sentinel, .sentinel, .sentinel, .sentinel, .sentinel, .sentinel, .sentinel, .sentinel, .sentinel, .data, .data], laidTests := true, laidLooks := .later }
def CrcBytesCardSaid : Prop := Claim7.holds Tryd.pinned (.plain (OpenSpec.ofChange crcBytesSpec)) crcBytesCard

/-- THE TIED CARD OF 'cordwoodlaw1.CrcRows'. -/
def crcRowsCard : Claim7 := { stood := { row := crcRowsRow, standIns := [], harness := (true, "10fdd7ae600e41f377965c13febb73a93b74dad3f310e7ca5d37ce3a1557c400"), looks := true }, kinds := [], alts := [], laidByText := true, laidKinds := [.data, .data], laidTests := true, laidLooks := .later }
def CrcRowsCardSaid : Prop := Claim7.holds Tryd.pinned (.plain (OpenSpec.ofChange crcRowsSpec)) crcRowsCard

/-- THE SECOND FORM's CARD OF 'cordwoodlaw1.CrcSays'. -/
def crcSaysUptoCard : Claim7 := { stood := { row := crcSaysUptoRow, standIns := [], harness := (true, "10fdd7ae600e41f377965c13febb73a93b74dad3f310e7ca5d37ce3a1557c400"), looks := true }, kinds := [], alts := [], laidByText := true, laidKinds := [.sentinel, .sentinel, .sentinel, .sentinel, .sentinel, .sentinel, .sentinel, .sentinel, .sentinel, .sentinel, .sentinel, .sentinel, .sentinel, .sentinel, .sentinel, .sentinel, .sentinel, .sentinel, .sentinel, .data, .data], laidTests := true, laidLooks := .later }
def CrcSaysUptoCardSaid : Prop := Claim7.holds Tryd.pinned (.plain (OpenSpec.upto crcSaysSpec)) crcSaysUptoCard

/-- THE SECOND FORM's CARD OF 'cordwoodlaw1.CrcFinds'. -/
def crcFindsUptoCard : Claim7 := { stood := { row := crcFindsUptoRow, standIns := [], harness := (true, "10fdd7ae600e41f377965c13febb73a93b74dad3f310e7ca5d37ce3a1557c400"), looks := true }, kinds := [], alts := [], laidByText := true, laidKinds := [.sentinel, .sentinel, .sentinel, .sentinel, .sentinel, .sentinel, .sentinel, .sentinel, .sentinel, .sentinel, .sentinel, .sentinel, .sentinel, .sentinel, .sentinel, .sentinel, .sentinel, .sentinel, .sentinel, .data, .data], laidTests := true, laidLooks := .later }
def CrcFindsUptoCardSaid : Prop := Claim7.holds Tryd.pinned (.plain (OpenSpec.upto crcFindsSpec)) crcFindsUptoCard

/-- THE SECOND FORM's CARD OF 'cordwoodlaw1.CrcParts'. -/
def crcPartsUptoCard : Claim7 := { stood := { row := crcPartsUptoRow, standIns := [], harness := (true, "10fdd7ae600e41f377965c13febb73a93b74dad3f310e7ca5d37ce3a1557c400"), looks := true }, kinds := [], alts := [], laidByText := true, laidKinds := [.data, .data], laidTests := true, laidLooks := .later }
def CrcPartsUptoCardSaid : Prop := Claim7.holds Tryd.pinned (.plain (OpenSpec.upto crcPartsSpec)) crcPartsUptoCard

/-- THE SECOND FORM's CARD OF 'cordwoodlaw1.CrcBytes'. -/
def crcBytesUptoCard : Claim7 := { stood := { row := crcBytesUptoRow, standIns := [], harness := (true, "10fdd7ae600e41f377965c13febb73a93b74dad3f310e7ca5d37ce3a1557c400"), looks := true }, kinds := [], alts := [], laidByText := true, laidKinds := [.sentinel, .sentinel, .sentinel, .sentinel, .sentinel, .sentinel, .sentinel, .sentinel, .sentinel, .sentinel, .sentinel, .sentinel, .sentinel, .sentinel, .sentinel, .sentinel, .sentinel, .sentinel, .sentinel, .data, .data], laidTests := true, laidLooks := .later }
def CrcBytesUptoCardSaid : Prop := Claim7.holds Tryd.pinned (.plain (OpenSpec.upto crcBytesSpec)) crcBytesUptoCard

/-- THE SECOND FORM's CARD OF 'cordwoodlaw1.CrcRows'. -/
def crcRowsUptoCard : Claim7 := { stood := { row := crcRowsUptoRow, standIns := [], harness := (true, "10fdd7ae600e41f377965c13febb73a93b74dad3f310e7ca5d37ce3a1557c400"), looks := true }, kinds := [], alts := [], laidByText := true, laidKinds := [.data, .data], laidTests := true, laidLooks := .later }
def CrcRowsUptoCardSaid : Prop := Claim7.holds Tryd.pinned (.plain (OpenSpec.upto crcRowsSpec)) crcRowsUptoCard
end Rows
end Go.Proofs.YtkddlimhmjabcaaDoor
