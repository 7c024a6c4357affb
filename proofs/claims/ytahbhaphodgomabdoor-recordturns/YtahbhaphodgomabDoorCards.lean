/-
  DERIVED. GIVEN WITH THE SEED: THE CARDS: each row of YtahbhaphodgomabDoorRows.lean that lists a variable, with what it lists TIED to the program's text (the seventh form; the later family's looks); each row that meets fmt, with fmt's text TOLD by the authors' own Lean function (tested against real Go, not proved from fmt's source: count such statements apart). THE CARD IS WHAT COUNTS. Prove the row's statement (the work); the ties are given (YtahbhaphodgomabDoorTie.lean); close each card by the builder's one call (the guide's Derived/Test/ToyasCard.lean, 'card_holds'). Laid BY PROGRAM, IN A SANDBOX (cutbox-door.mjs). By AI agents, Wed Nov 11 2026. No macro, syntax, notation, axiom, sorry.
-/
import Derived.Test.YtahbhaphodgomabDoorRows
import GoSem.ClaimSeven
namespace Go.Proofs.YtahbhaphodgomabDoor
namespace Rows

/-- THE TIED CARD OF 'tailracelaw05.RecordPuts'. -/
def recordPutsCard : Claim7 := { stood := { row := recordPutsRow, standIns := [], harness := (true, "d1365549457b74381d508600a2126fcadad875ff58f11514742a008dc1fd8512"), looks := false }, kinds := [], alts := [], laidByText := true, laidKinds := [.data], laidTests := true, laidLooks := .later }
def RecordPutsCardSaid : Prop := Claim7.holds Tryd.pinned (.plain (OpenSpec.ofChange recordPutsSpec)) recordPutsCard

/-- THE TIED CARD OF 'tailracelaw05.RecordNexts'. -/
def recordNextsCard : Claim7 := { stood := { row := recordNextsRow, standIns := [], harness := (true, "d1365549457b74381d508600a2126fcadad875ff58f11514742a008dc1fd8512"), looks := false }, kinds := [], alts := [], laidByText := true, laidKinds := [.data], laidTests := true, laidLooks := .later }
def RecordNextsCardSaid : Prop := Claim7.holds Tryd.pinned (.plain (OpenSpec.ofChange recordNextsSpec)) recordNextsCard

/-- THE TIED CARD OF 'tailracelaw05.RecordAlls'. -/
def recordAllsCard : Claim7 := { stood := { row := recordAllsRow, standIns := [], harness := (true, "d1365549457b74381d508600a2126fcadad875ff58f11514742a008dc1fd8512"), looks := false }, kinds := [], alts := [], laidByText := true, laidKinds := [.data], laidTests := true, laidLooks := .later }
def RecordAllsCardSaid : Prop := Claim7.holds Tryd.pinned (.plain (OpenSpec.ofChange recordAllsSpec)) recordAllsCard

/-- THE TIED CARD OF 'tailracelaw05.RecordTurns'. -/
def recordTurnsCard : Claim7 := { stood := { row := recordTurnsRow, standIns := [], harness := (true, "d1365549457b74381d508600a2126fcadad875ff58f11514742a008dc1fd8512"), looks := false }, kinds := [], alts := [], laidByText := true, laidKinds := [.data], laidTests := true, laidLooks := .later }
def RecordTurnsCardSaid : Prop := Claim7.holds Tryd.pinned (.plain (OpenSpec.ofChange recordTurnsSpec)) recordTurnsCard

/-- THE TIED CARD OF 'tailracelaw05.RecordLong'. -/
def recordLongCard : Claim7 := { stood := { row := recordLongRow, standIns := [], harness := (true, "d1365549457b74381d508600a2126fcadad875ff58f11514742a008dc1fd8512"), looks := false }, kinds := [], alts := [], laidByText := true, laidKinds := [.data], laidTests := true, laidLooks := .later }
def RecordLongCardSaid : Prop := Claim7.holds Tryd.pinned (.plain (OpenSpec.ofChange recordLongSpec)) recordLongCard

/-- THE TIED CARD OF 'tailracelaw05.RecordAgain'. -/
def recordAgainCard : Claim7 := { stood := { row := recordAgainRow, standIns := [], harness := (true, "d1365549457b74381d508600a2126fcadad875ff58f11514742a008dc1fd8512"), looks := false }, kinds := [], alts := [], laidByText := true, laidKinds := [.data], laidTests := true, laidLooks := .later }
def RecordAgainCardSaid : Prop := Claim7.holds Tryd.pinned (.plain (OpenSpec.ofChange recordAgainSpec)) recordAgainCard

/-- THE SECOND FORM's CARD OF 'tailracelaw05.RecordPuts'. -/
def recordPutsUptoCard : Claim7 := { stood := { row := recordPutsUptoRow, standIns := [], harness := (true, "d1365549457b74381d508600a2126fcadad875ff58f11514742a008dc1fd8512"), looks := false }, kinds := [], alts := [], laidByText := true, laidKinds := [.data], laidTests := true, laidLooks := .later }
def RecordPutsUptoCardSaid : Prop := Claim7.holds Tryd.pinned (.plain (OpenSpec.upto recordPutsSpec)) recordPutsUptoCard

/-- THE SECOND FORM's CARD OF 'tailracelaw05.RecordNexts'. -/
def recordNextsUptoCard : Claim7 := { stood := { row := recordNextsUptoRow, standIns := [], harness := (true, "d1365549457b74381d508600a2126fcadad875ff58f11514742a008dc1fd8512"), looks := false }, kinds := [], alts := [], laidByText := true, laidKinds := [.data], laidTests := true, laidLooks := .later }
def RecordNextsUptoCardSaid : Prop := Claim7.holds Tryd.pinned (.plain (OpenSpec.upto recordNextsSpec)) recordNextsUptoCard

/-- THE SECOND FORM's CARD OF 'tailracelaw05.RecordAlls'. -/
def recordAllsUptoCard : Claim7 := { stood := { row := recordAllsUptoRow, standIns := [], harness := (true, "d1365549457b74381d508600a2126fcadad875ff58f11514742a008dc1fd8512"), looks := false }, kinds := [], alts := [], laidByText := true, laidKinds := [.data], laidTests := true, laidLooks := .later }
def RecordAllsUptoCardSaid : Prop := Claim7.holds Tryd.pinned (.plain (OpenSpec.upto recordAllsSpec)) recordAllsUptoCard

/-- THE SECOND FORM's CARD OF 'tailracelaw05.RecordTurns'. -/
def recordTurnsUptoCard : Claim7 := { stood := { row := recordTurnsUptoRow, standIns := [], harness := (true, "d1365549457b74381d508600a2126fcadad875ff58f11514742a008dc1fd8512"), looks := false }, kinds := [], alts := [], laidByText := true, laidKinds := [.data], laidTests := true, laidLooks := .later }
def RecordTurnsUptoCardSaid : Prop := Claim7.holds Tryd.pinned (.plain (OpenSpec.upto recordTurnsSpec)) recordTurnsUptoCard

/-- THE SECOND FORM's CARD OF 'tailracelaw05.RecordLong'. -/
def recordLongUptoCard : Claim7 := { stood := { row := recordLongUptoRow, standIns := [], harness := (true, "d1365549457b74381d508600a2126fcadad875ff58f11514742a008dc1fd8512"), looks := false }, kinds := [], alts := [], laidByText := true, laidKinds := [.data], laidTests := true, laidLooks := .later }
def RecordLongUptoCardSaid : Prop := Claim7.holds Tryd.pinned (.plain (OpenSpec.upto recordLongSpec)) recordLongUptoCard

/-- THE SECOND FORM's CARD OF 'tailracelaw05.RecordAgain'. -/
def recordAgainUptoCard : Claim7 := { stood := { row := recordAgainUptoRow, standIns := [], harness := (true, "d1365549457b74381d508600a2126fcadad875ff58f11514742a008dc1fd8512"), looks := false }, kinds := [], alts := [], laidByText := true, laidKinds := [.data], laidTests := true, laidLooks := .later }
def RecordAgainUptoCardSaid : Prop := Claim7.holds Tryd.pinned (.plain (OpenSpec.upto recordAgainSpec)) recordAgainUptoCard
end Rows
end Go.Proofs.YtahbhaphodgomabDoor
