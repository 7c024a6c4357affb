/-
  DERIVED. GIVEN WITH THE SEED: THE CARDS: each row of YtnlmejpimjjaaaaDoorRows.lean that lists a variable, with what it lists TIED to the program's text (the seventh form; the later family's looks); each row that meets fmt, with fmt's text TOLD by the authors' own Lean function (tested against real Go, not proved from fmt's source: count such statements apart). THE CARD IS WHAT COUNTS. Prove the row's statement (the work); the ties are given (YtnlmejpimjjaaaaDoorTie.lean); close each card by the builder's one call (the guide's Derived/Test/ToyasCard.lean, 'card_holds'). Laid BY PROGRAM, IN A SANDBOX (cutbox-door.mjs). By AI agents, Wed Nov 11 2026. No macro, syntax, notation, axiom, sorry.
-/
import Derived.Test.YtnlmejpimjjaaaaDoorRows
import GoSem.ClaimSeven
namespace Go.Proofs.YtnlmejpimjjaaaaDoor
namespace Rows

/-- THE TIED CARD OF 'tailracelaw07.TxIds'. -/
def txIdsCard : Claim7 := { stood := { row := txIdsRow, standIns := [], harness := (true, "272c3cba650871451a4a31d24c8b1d4509a5d44d72f2280dca1cfdd8ff1b2da0"), looks := false }, kinds := [], alts := [], laidByText := true, laidKinds := [.data], laidTests := true, laidLooks := .later }
def TxIdsCardSaid : Prop := Claim7.holds Tryd.pinned (.plain (OpenSpec.ofChange txIdsSpec)) txIdsCard

/-- THE TIED CARD OF 'tailracelaw07.TxLines'. -/
def txLinesCard : Claim7 := { stood := { row := txLinesRow, standIns := [], harness := (true, "272c3cba650871451a4a31d24c8b1d4509a5d44d72f2280dca1cfdd8ff1b2da0"), looks := false }, kinds := [], alts := [], laidByText := true, laidKinds := [.data], laidTests := true, laidLooks := .later }
def TxLinesCardSaid : Prop := Claim7.holds Tryd.pinned (.plain (OpenSpec.ofChange txLinesSpec)) txLinesCard

/-- THE TIED CARD OF 'tailracelaw08.BlockHeads'. -/
def blockHeadsCard : Claim7 := { stood := { row := blockHeadsRow, standIns := [], harness := (true, "272c3cba650871451a4a31d24c8b1d4509a5d44d72f2280dca1cfdd8ff1b2da0"), looks := false }, kinds := [], alts := [], laidByText := true, laidKinds := [.data], laidTests := true, laidLooks := .later }
def BlockHeadsCardSaid : Prop := Claim7.holds Tryd.pinned (.plain (OpenSpec.ofChange blockHeadsSpec)) blockHeadsCard

/-- THE TIED CARD OF 'tailracelaw08.BlockRoots'. -/
def blockRootsCard : Claim7 := { stood := { row := blockRootsRow, standIns := [], harness := (true, "272c3cba650871451a4a31d24c8b1d4509a5d44d72f2280dca1cfdd8ff1b2da0"), looks := false }, kinds := [], alts := [], laidByText := true, laidKinds := [.data], laidTests := true, laidLooks := .later }
def BlockRootsCardSaid : Prop := Claim7.holds Tryd.pinned (.plain (OpenSpec.ofChange blockRootsSpec)) blockRootsCard

/-- THE TIED CARD OF 'tailracelaw08.BlockBranches'. -/
def blockBranchesCard : Claim7 := { stood := { row := blockBranchesRow, standIns := [], harness := (true, "272c3cba650871451a4a31d24c8b1d4509a5d44d72f2280dca1cfdd8ff1b2da0"), looks := false }, kinds := [], alts := [], laidByText := true, laidKinds := [.data], laidTests := true, laidLooks := .later }
def BlockBranchesCardSaid : Prop := Claim7.holds Tryd.pinned (.plain (OpenSpec.ofChange blockBranchesSpec)) blockBranchesCard

/-- THE TIED CARD OF 'tailracelaw08.BlockClimbs'. -/
def blockClimbsCard : Claim7 := { stood := { row := blockClimbsRow, standIns := [], harness := (true, "272c3cba650871451a4a31d24c8b1d4509a5d44d72f2280dca1cfdd8ff1b2da0"), looks := false }, kinds := [], alts := [], laidByText := true, laidKinds := [.data], laidTests := true, laidLooks := .later }
def BlockClimbsCardSaid : Prop := Claim7.holds Tryd.pinned (.plain (OpenSpec.ofChange blockClimbsSpec)) blockClimbsCard

/-- THE TIED CARD OF 'tailracelaw08.BlockChecks'. -/
def blockChecksCard : Claim7 := { stood := { row := blockChecksRow, standIns := [], harness := (true, "272c3cba650871451a4a31d24c8b1d4509a5d44d72f2280dca1cfdd8ff1b2da0"), looks := false }, kinds := [], alts := [], laidByText := true, laidKinds := [.data], laidTests := true, laidLooks := .later }
def BlockChecksCardSaid : Prop := Claim7.holds Tryd.pinned (.plain (OpenSpec.ofChange blockChecksSpec)) blockChecksCard

/-- THE TIED CARD OF 'tailracelaw08.BlockWrites'. -/
def blockWritesCard : Claim7 := { stood := { row := blockWritesRow, standIns := [], harness := (true, "272c3cba650871451a4a31d24c8b1d4509a5d44d72f2280dca1cfdd8ff1b2da0"), looks := false }, kinds := [], alts := [], laidByText := true, laidKinds := [.data], laidTests := true, laidLooks := .later }
def BlockWritesCardSaid : Prop := Claim7.holds Tryd.pinned (.plain (OpenSpec.ofChange blockWritesSpec)) blockWritesCard

/-- THE TIED CARD OF 'tailracelaw08.BlockReads'. -/
def blockReadsCard : Claim7 := { stood := { row := blockReadsRow, standIns := [], harness := (true, "272c3cba650871451a4a31d24c8b1d4509a5d44d72f2280dca1cfdd8ff1b2da0"), looks := false }, kinds := [], alts := [], laidByText := true, laidKinds := [.data], laidTests := true, laidLooks := .later }
def BlockReadsCardSaid : Prop := Claim7.holds Tryd.pinned (.plain (OpenSpec.ofChange blockReadsSpec)) blockReadsCard

/-- THE TIED CARD OF 'tailracelaw08.BlockParts'. -/
def blockPartsCard : Claim7 := { stood := { row := blockPartsRow, standIns := [], harness := (true, "272c3cba650871451a4a31d24c8b1d4509a5d44d72f2280dca1cfdd8ff1b2da0"), looks := false }, kinds := [], alts := [], laidByText := true, laidKinds := [.data], laidTests := true, laidLooks := .later }
def BlockPartsCardSaid : Prop := Claim7.holds Tryd.pinned (.plain (OpenSpec.ofChange blockPartsSpec)) blockPartsCard

/-- THE SECOND FORM's CARD OF 'tailracelaw07.TxIds'. -/
def txIdsUptoCard : Claim7 := { stood := { row := txIdsUptoRow, standIns := [], harness := (true, "272c3cba650871451a4a31d24c8b1d4509a5d44d72f2280dca1cfdd8ff1b2da0"), looks := false }, kinds := [], alts := [], laidByText := true, laidKinds := [.data], laidTests := true, laidLooks := .later }
def TxIdsUptoCardSaid : Prop := Claim7.holds Tryd.pinned (.plain (OpenSpec.upto txIdsSpec)) txIdsUptoCard

/-- THE SECOND FORM's CARD OF 'tailracelaw07.TxLines'. -/
def txLinesUptoCard : Claim7 := { stood := { row := txLinesUptoRow, standIns := [], harness := (true, "272c3cba650871451a4a31d24c8b1d4509a5d44d72f2280dca1cfdd8ff1b2da0"), looks := false }, kinds := [], alts := [], laidByText := true, laidKinds := [.data], laidTests := true, laidLooks := .later }
def TxLinesUptoCardSaid : Prop := Claim7.holds Tryd.pinned (.plain (OpenSpec.upto txLinesSpec)) txLinesUptoCard

/-- THE SECOND FORM's CARD OF 'tailracelaw08.BlockHeads'. -/
def blockHeadsUptoCard : Claim7 := { stood := { row := blockHeadsUptoRow, standIns := [], harness := (true, "272c3cba650871451a4a31d24c8b1d4509a5d44d72f2280dca1cfdd8ff1b2da0"), looks := false }, kinds := [], alts := [], laidByText := true, laidKinds := [.data], laidTests := true, laidLooks := .later }
def BlockHeadsUptoCardSaid : Prop := Claim7.holds Tryd.pinned (.plain (OpenSpec.upto blockHeadsSpec)) blockHeadsUptoCard

/-- THE SECOND FORM's CARD OF 'tailracelaw08.BlockRoots'. -/
def blockRootsUptoCard : Claim7 := { stood := { row := blockRootsUptoRow, standIns := [], harness := (true, "272c3cba650871451a4a31d24c8b1d4509a5d44d72f2280dca1cfdd8ff1b2da0"), looks := false }, kinds := [], alts := [], laidByText := true, laidKinds := [.data], laidTests := true, laidLooks := .later }
def BlockRootsUptoCardSaid : Prop := Claim7.holds Tryd.pinned (.plain (OpenSpec.upto blockRootsSpec)) blockRootsUptoCard

/-- THE SECOND FORM's CARD OF 'tailracelaw08.BlockBranches'. -/
def blockBranchesUptoCard : Claim7 := { stood := { row := blockBranchesUptoRow, standIns := [], harness := (true, "272c3cba650871451a4a31d24c8b1d4509a5d44d72f2280dca1cfdd8ff1b2da0"), looks := false }, kinds := [], alts := [], laidByText := true, laidKinds := [.data], laidTests := true, laidLooks := .later }
def BlockBranchesUptoCardSaid : Prop := Claim7.holds Tryd.pinned (.plain (OpenSpec.upto blockBranchesSpec)) blockBranchesUptoCard

/-- THE SECOND FORM's CARD OF 'tailracelaw08.BlockClimbs'. -/
def blockClimbsUptoCard : Claim7 := { stood := { row := blockClimbsUptoRow, standIns := [], harness := (true, "272c3cba650871451a4a31d24c8b1d4509a5d44d72f2280dca1cfdd8ff1b2da0"), looks := false }, kinds := [], alts := [], laidByText := true, laidKinds := [.data], laidTests := true, laidLooks := .later }
def BlockClimbsUptoCardSaid : Prop := Claim7.holds Tryd.pinned (.plain (OpenSpec.upto blockClimbsSpec)) blockClimbsUptoCard

/-- THE SECOND FORM's CARD OF 'tailracelaw08.BlockChecks'. -/
def blockChecksUptoCard : Claim7 := { stood := { row := blockChecksUptoRow, standIns := [], harness := (true, "272c3cba650871451a4a31d24c8b1d4509a5d44d72f2280dca1cfdd8ff1b2da0"), looks := false }, kinds := [], alts := [], laidByText := true, laidKinds := [.data], laidTests := true, laidLooks := .later }
def BlockChecksUptoCardSaid : Prop := Claim7.holds Tryd.pinned (.plain (OpenSpec.upto blockChecksSpec)) blockChecksUptoCard

/-- THE SECOND FORM's CARD OF 'tailracelaw08.BlockWrites'. -/
def blockWritesUptoCard : Claim7 := { stood := { row := blockWritesUptoRow, standIns := [], harness := (true, "272c3cba650871451a4a31d24c8b1d4509a5d44d72f2280dca1cfdd8ff1b2da0"), looks := false }, kinds := [], alts := [], laidByText := true, laidKinds := [.data], laidTests := true, laidLooks := .later }
def BlockWritesUptoCardSaid : Prop := Claim7.holds Tryd.pinned (.plain (OpenSpec.upto blockWritesSpec)) blockWritesUptoCard

/-- THE SECOND FORM's CARD OF 'tailracelaw08.BlockReads'. -/
def blockReadsUptoCard : Claim7 := { stood := { row := blockReadsUptoRow, standIns := [], harness := (true, "272c3cba650871451a4a31d24c8b1d4509a5d44d72f2280dca1cfdd8ff1b2da0"), looks := false }, kinds := [], alts := [], laidByText := true, laidKinds := [.data], laidTests := true, laidLooks := .later }
def BlockReadsUptoCardSaid : Prop := Claim7.holds Tryd.pinned (.plain (OpenSpec.upto blockReadsSpec)) blockReadsUptoCard

/-- THE SECOND FORM's CARD OF 'tailracelaw08.BlockParts'. -/
def blockPartsUptoCard : Claim7 := { stood := { row := blockPartsUptoRow, standIns := [], harness := (true, "272c3cba650871451a4a31d24c8b1d4509a5d44d72f2280dca1cfdd8ff1b2da0"), looks := false }, kinds := [], alts := [], laidByText := true, laidKinds := [.data], laidTests := true, laidLooks := .later }
def BlockPartsUptoCardSaid : Prop := Claim7.holds Tryd.pinned (.plain (OpenSpec.upto blockPartsSpec)) blockPartsUptoCard
end Rows
end Go.Proofs.YtnlmejpimjjaaaaDoor
