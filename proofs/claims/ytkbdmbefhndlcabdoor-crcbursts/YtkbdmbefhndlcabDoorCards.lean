/-
  DERIVED. GIVEN WITH THE SEED: THE CARDS: each row of YtkbdmbefhndlcabDoorRows.lean that lists a variable, with what it lists TIED to the program's text (the seventh form; the later family's looks); each row that meets fmt, with fmt's text TOLD by the authors' own Lean function (tested against real Go, not proved from fmt's source: count such statements apart). THE CARD IS WHAT COUNTS. Prove the row's statement (the work); the ties are given (YtkbdmbefhndlcabDoorTie.lean); close each card by the builder's one call (the guide's Derived/Test/ToyasCard.lean, 'card_holds'). Laid BY PROGRAM, IN A SANDBOX (cutbox-door.mjs). By AI agents, Wed Nov 11 2026. No macro, syntax, notation, axiom, sorry.
-/
import Derived.Test.YtkbdmbefhndlcabDoorRows
import GoSem.ClaimSeven
namespace Go.Proofs.YtkbdmbefhndlcabDoor
namespace Rows

/-- THE TIED CARD OF 'tailracelaw02.CrcSums'. -/
def crcSumsCard : Claim7 := { stood := { row := crcSumsRow, standIns := [], harness := (true, "fa4fe10739da66da132cf1eae5275f76401c1dd9548ebcd51fd0e166052115d5"), looks := false }, kinds := [], alts := [], laidByText := true, laidKinds := [.data], laidTests := true, laidLooks := .later }
def CrcSumsCardSaid : Prop := Claim7.holds Tryd.pinned (.plain (OpenSpec.ofChange crcSumsSpec)) crcSumsCard

/-- THE TIED CARD OF 'tailracelaw02.CrcMores'. -/
def crcMoresCard : Claim7 := { stood := { row := crcMoresRow, standIns := [], harness := (true, "fa4fe10739da66da132cf1eae5275f76401c1dd9548ebcd51fd0e166052115d5"), looks := false }, kinds := [], alts := [], laidByText := true, laidKinds := [.data], laidTests := true, laidLooks := .later }
def CrcMoresCardSaid : Prop := Claim7.holds Tryd.pinned (.plain (OpenSpec.ofChange crcMoresSpec)) crcMoresCard

/-- THE TIED CARD OF 'tailracelaw02.CrcMasks'. -/
def crcMasksCard : Claim7 := { stood := { row := crcMasksRow, standIns := [], harness := (true, "fa4fe10739da66da132cf1eae5275f76401c1dd9548ebcd51fd0e166052115d5"), looks := false }, kinds := [], alts := [], laidByText := true, laidKinds := [.data], laidTests := true, laidLooks := .later }
def CrcMasksCardSaid : Prop := Claim7.holds Tryd.pinned (.plain (OpenSpec.ofChange crcMasksSpec)) crcMasksCard

/-- THE TIED CARD OF 'tailracelaw02.CrcBursts'. -/
def crcBurstsCard : Claim7 := { stood := { row := crcBurstsRow, standIns := [], harness := (true, "fa4fe10739da66da132cf1eae5275f76401c1dd9548ebcd51fd0e166052115d5"), looks := false }, kinds := [], alts := [], laidByText := true, laidKinds := [.data], laidTests := true, laidLooks := .later }
def CrcBurstsCardSaid : Prop := Claim7.holds Tryd.pinned (.plain (OpenSpec.ofChange crcBurstsSpec)) crcBurstsCard

/-- THE TIED CARD OF 'tailracelaw02.CrcLinear'. -/
def crcLinearCard : Claim7 := { stood := { row := crcLinearRow, standIns := [], harness := (true, "fa4fe10739da66da132cf1eae5275f76401c1dd9548ebcd51fd0e166052115d5"), looks := false }, kinds := [], alts := [], laidByText := true, laidKinds := [.data], laidTests := true, laidLooks := .later }
def CrcLinearCardSaid : Prop := Claim7.holds Tryd.pinned (.plain (OpenSpec.ofChange crcLinearSpec)) crcLinearCard

/-- THE TIED CARD OF 'tailracelaw02.CrcKnown'. -/
def crcKnownCard : Claim7 := { stood := { row := crcKnownRow, standIns := [], harness := (true, "fa4fe10739da66da132cf1eae5275f76401c1dd9548ebcd51fd0e166052115d5"), looks := false }, kinds := [], alts := [], laidByText := true, laidKinds := [.data], laidTests := true, laidLooks := .later }
def CrcKnownCardSaid : Prop := Claim7.holds Tryd.pinned (.plain (OpenSpec.ofChange crcKnownSpec)) crcKnownCard

/-- THE SECOND FORM's CARD OF 'tailracelaw02.CrcSums'. -/
def crcSumsUptoCard : Claim7 := { stood := { row := crcSumsUptoRow, standIns := [], harness := (true, "fa4fe10739da66da132cf1eae5275f76401c1dd9548ebcd51fd0e166052115d5"), looks := false }, kinds := [], alts := [], laidByText := true, laidKinds := [.data], laidTests := true, laidLooks := .later }
def CrcSumsUptoCardSaid : Prop := Claim7.holds Tryd.pinned (.plain (OpenSpec.upto crcSumsSpec)) crcSumsUptoCard

/-- THE SECOND FORM's CARD OF 'tailracelaw02.CrcMores'. -/
def crcMoresUptoCard : Claim7 := { stood := { row := crcMoresUptoRow, standIns := [], harness := (true, "fa4fe10739da66da132cf1eae5275f76401c1dd9548ebcd51fd0e166052115d5"), looks := false }, kinds := [], alts := [], laidByText := true, laidKinds := [.data], laidTests := true, laidLooks := .later }
def CrcMoresUptoCardSaid : Prop := Claim7.holds Tryd.pinned (.plain (OpenSpec.upto crcMoresSpec)) crcMoresUptoCard

/-- THE SECOND FORM's CARD OF 'tailracelaw02.CrcMasks'. -/
def crcMasksUptoCard : Claim7 := { stood := { row := crcMasksUptoRow, standIns := [], harness := (true, "fa4fe10739da66da132cf1eae5275f76401c1dd9548ebcd51fd0e166052115d5"), looks := false }, kinds := [], alts := [], laidByText := true, laidKinds := [.data], laidTests := true, laidLooks := .later }
def CrcMasksUptoCardSaid : Prop := Claim7.holds Tryd.pinned (.plain (OpenSpec.upto crcMasksSpec)) crcMasksUptoCard

/-- THE SECOND FORM's CARD OF 'tailracelaw02.CrcBursts'. -/
def crcBurstsUptoCard : Claim7 := { stood := { row := crcBurstsUptoRow, standIns := [], harness := (true, "fa4fe10739da66da132cf1eae5275f76401c1dd9548ebcd51fd0e166052115d5"), looks := false }, kinds := [], alts := [], laidByText := true, laidKinds := [.data], laidTests := true, laidLooks := .later }
def CrcBurstsUptoCardSaid : Prop := Claim7.holds Tryd.pinned (.plain (OpenSpec.upto crcBurstsSpec)) crcBurstsUptoCard

/-- THE SECOND FORM's CARD OF 'tailracelaw02.CrcLinear'. -/
def crcLinearUptoCard : Claim7 := { stood := { row := crcLinearUptoRow, standIns := [], harness := (true, "fa4fe10739da66da132cf1eae5275f76401c1dd9548ebcd51fd0e166052115d5"), looks := false }, kinds := [], alts := [], laidByText := true, laidKinds := [.data], laidTests := true, laidLooks := .later }
def CrcLinearUptoCardSaid : Prop := Claim7.holds Tryd.pinned (.plain (OpenSpec.upto crcLinearSpec)) crcLinearUptoCard

/-- THE SECOND FORM's CARD OF 'tailracelaw02.CrcKnown'. -/
def crcKnownUptoCard : Claim7 := { stood := { row := crcKnownUptoRow, standIns := [], harness := (true, "fa4fe10739da66da132cf1eae5275f76401c1dd9548ebcd51fd0e166052115d5"), looks := false }, kinds := [], alts := [], laidByText := true, laidKinds := [.data], laidTests := true, laidLooks := .later }
def CrcKnownUptoCardSaid : Prop := Claim7.holds Tryd.pinned (.plain (OpenSpec.upto crcKnownSpec)) crcKnownUptoCard
end Rows
end Go.Proofs.YtkbdmbefhndlcabDoor
