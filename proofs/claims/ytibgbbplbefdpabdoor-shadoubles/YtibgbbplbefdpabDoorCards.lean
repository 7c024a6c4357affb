/-
  DERIVED. GIVEN WITH THE SEED: THE CARDS: each row of YtibgbbplbefdpabDoorRows.lean that lists a variable, with what it lists TIED to the program's text (the seventh form; the later family's looks); each row that meets fmt, with fmt's text TOLD by the authors' own Lean function (tested against real Go, not proved from fmt's source: count such statements apart). THE CARD IS WHAT COUNTS. Prove the row's statement (the work); the ties are given (YtibgbbplbefdpabDoorTie.lean); close each card by the builder's one call (the guide's Derived/Test/ToyasCard.lean, 'card_holds'). Laid BY PROGRAM, IN A SANDBOX (cutbox-door.mjs). By AI agents, Wed Nov 11 2026. No macro, syntax, notation, axiom, sorry.
-/
import Derived.Test.YtibgbbplbefdpabDoorRows
import GoSem.ClaimSeven
namespace Go.Proofs.YtibgbbplbefdpabDoor
namespace Rows

/-- THE TIED CARD OF 'tailracelaw03.ShaSums'. -/
def shaSumsCard : Claim7 := { stood := { row := shaSumsRow, standIns := [], harness := (true, "71618f20f2208b404525e44c41991a149b50bb2064f34af66aa6ef9fbd525a83"), looks := false }, kinds := [], alts := [], laidByText := true, laidKinds := [.data], laidTests := true, laidLooks := .later }
def ShaSumsCardSaid : Prop := Claim7.holds Tryd.pinned (.plain (OpenSpec.ofChange shaSumsSpec)) shaSumsCard

/-- THE TIED CARD OF 'tailracelaw03.ShaDoubles'. -/
def shaDoublesCard : Claim7 := { stood := { row := shaDoublesRow, standIns := [], harness := (true, "71618f20f2208b404525e44c41991a149b50bb2064f34af66aa6ef9fbd525a83"), looks := false }, kinds := [], alts := [], laidByText := true, laidKinds := [.data], laidTests := true, laidLooks := .later }
def ShaDoublesCardSaid : Prop := Claim7.holds Tryd.pinned (.plain (OpenSpec.ofChange shaDoublesSpec)) shaDoublesCard

/-- THE TIED CARD OF 'tailracelaw03.ShaEdges'. -/
def shaEdgesCard : Claim7 := { stood := { row := shaEdgesRow, standIns := [], harness := (true, "71618f20f2208b404525e44c41991a149b50bb2064f34af66aa6ef9fbd525a83"), looks := false }, kinds := [], alts := [], laidByText := true, laidKinds := [.data], laidTests := true, laidLooks := .later }
def ShaEdgesCardSaid : Prop := Claim7.holds Tryd.pinned (.plain (OpenSpec.ofChange shaEdgesSpec)) shaEdgesCard

/-- THE SECOND FORM's CARD OF 'tailracelaw03.ShaSums'. -/
def shaSumsUptoCard : Claim7 := { stood := { row := shaSumsUptoRow, standIns := [], harness := (true, "71618f20f2208b404525e44c41991a149b50bb2064f34af66aa6ef9fbd525a83"), looks := false }, kinds := [], alts := [], laidByText := true, laidKinds := [.data], laidTests := true, laidLooks := .later }
def ShaSumsUptoCardSaid : Prop := Claim7.holds Tryd.pinned (.plain (OpenSpec.upto shaSumsSpec)) shaSumsUptoCard

/-- THE SECOND FORM's CARD OF 'tailracelaw03.ShaDoubles'. -/
def shaDoublesUptoCard : Claim7 := { stood := { row := shaDoublesUptoRow, standIns := [], harness := (true, "71618f20f2208b404525e44c41991a149b50bb2064f34af66aa6ef9fbd525a83"), looks := false }, kinds := [], alts := [], laidByText := true, laidKinds := [.data], laidTests := true, laidLooks := .later }
def ShaDoublesUptoCardSaid : Prop := Claim7.holds Tryd.pinned (.plain (OpenSpec.upto shaDoublesSpec)) shaDoublesUptoCard

/-- THE SECOND FORM's CARD OF 'tailracelaw03.ShaEdges'. -/
def shaEdgesUptoCard : Claim7 := { stood := { row := shaEdgesUptoRow, standIns := [], harness := (true, "71618f20f2208b404525e44c41991a149b50bb2064f34af66aa6ef9fbd525a83"), looks := false }, kinds := [], alts := [], laidByText := true, laidKinds := [.data], laidTests := true, laidLooks := .later }
def ShaEdgesUptoCardSaid : Prop := Claim7.holds Tryd.pinned (.plain (OpenSpec.upto shaEdgesSpec)) shaEdgesUptoCard
end Rows
end Go.Proofs.YtibgbbplbefdpabDoor
