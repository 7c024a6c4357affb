/-
  DERIVED. GIVEN WITH THE SEED: THE CARDS: each row of YtdppnicbpdjanaaDoorRows.lean that lists a variable, with what it lists TIED to the program's text (the seventh form; the later family's looks); each row that meets fmt, with fmt's text TOLD by the authors' own Lean function (tested against real Go, not proved from fmt's source: count such statements apart). THE CARD IS WHAT COUNTS. Prove the row's statement (the work); the ties are given (YtdppnicbpdjanaaDoorTie.lean); close each card by the builder's one call (the guide's Derived/Test/ToyasCard.lean, 'card_holds'). Laid BY PROGRAM, IN A SANDBOX (cutbox-door.mjs). By AI agents, Wed Nov 11 2026. No macro, syntax, notation, axiom, sorry.
-/
import Derived.Test.YtdppnicbpdjanaaDoorRows
import GoSem.ClaimSeven
namespace Go.Proofs.YtdppnicbpdjanaaDoor
namespace Rows

/-- THE TIED CARD OF 'tailracelaw07.TxIds'. -/
def txIdsCard : Claim7 := { stood := { row := txIdsRow, standIns := [], harness := (true, "f5a5c03dcb90abeff0adfb0d8ed78ce2e607799f4bfe643475ff94f9665dc9b4"), looks := false }, kinds := [], alts := [], laidByText := true, laidKinds := [.data], laidTests := true, laidLooks := .later }
def TxIdsCardSaid : Prop := Claim7.holds Tryd.pinned (.plain (OpenSpec.ofChange txIdsSpec)) txIdsCard

/-- THE TIED CARD OF 'tailracelaw07.TxLines'. -/
def txLinesCard : Claim7 := { stood := { row := txLinesRow, standIns := [], harness := (true, "f5a5c03dcb90abeff0adfb0d8ed78ce2e607799f4bfe643475ff94f9665dc9b4"), looks := false }, kinds := [], alts := [], laidByText := true, laidKinds := [.data], laidTests := true, laidLooks := .later }
def TxLinesCardSaid : Prop := Claim7.holds Tryd.pinned (.plain (OpenSpec.ofChange txLinesSpec)) txLinesCard

/-- THE SECOND FORM's CARD OF 'tailracelaw07.TxIds'. -/
def txIdsUptoCard : Claim7 := { stood := { row := txIdsUptoRow, standIns := [], harness := (true, "f5a5c03dcb90abeff0adfb0d8ed78ce2e607799f4bfe643475ff94f9665dc9b4"), looks := false }, kinds := [], alts := [], laidByText := true, laidKinds := [.data], laidTests := true, laidLooks := .later }
def TxIdsUptoCardSaid : Prop := Claim7.holds Tryd.pinned (.plain (OpenSpec.upto txIdsSpec)) txIdsUptoCard

/-- THE SECOND FORM's CARD OF 'tailracelaw07.TxLines'. -/
def txLinesUptoCard : Claim7 := { stood := { row := txLinesUptoRow, standIns := [], harness := (true, "f5a5c03dcb90abeff0adfb0d8ed78ce2e607799f4bfe643475ff94f9665dc9b4"), looks := false }, kinds := [], alts := [], laidByText := true, laidKinds := [.data], laidTests := true, laidLooks := .later }
def TxLinesUptoCardSaid : Prop := Claim7.holds Tryd.pinned (.plain (OpenSpec.upto txLinesSpec)) txLinesUptoCard
end Rows
end Go.Proofs.YtdppnicbpdjanaaDoor
