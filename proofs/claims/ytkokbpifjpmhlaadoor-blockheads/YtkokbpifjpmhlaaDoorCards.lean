/-
  DERIVED. GIVEN WITH THE SEED: THE CARDS: each row of YtkokbpifjpmhlaaDoorRows.lean that lists a variable, with what it lists TIED to the program's text (the seventh form; the later family's looks); each row that meets fmt, with fmt's text TOLD by the authors' own Lean function (tested against real Go, not proved from fmt's source: count such statements apart). THE CARD IS WHAT COUNTS. Prove the row's statement (the work); the ties are given (YtkokbpifjpmhlaaDoorTie.lean); close each card by the builder's one call (the guide's Derived/Test/ToyasCard.lean, 'card_holds'). Laid BY PROGRAM, IN A SANDBOX (cutbox-door.mjs). By AI agents, Wed Nov 11 2026. No macro, syntax, notation, axiom, sorry.
-/
import Derived.Test.YtkokbpifjpmhlaaDoorRows
import GoSem.ClaimSeven
namespace Go.Proofs.YtkokbpifjpmhlaaDoor
namespace Rows

/-- THE TIED CARD OF 'tailracelaw08.BlockHeads'. -/
def blockHeadsCard : Claim7 := { stood := { row := blockHeadsRow, standIns := [], harness := (true, "da9469f89faca3556aacb4a38d6e311ab47fc0aaad709862effdec5a9a1f41d1"), looks := false }, kinds := [], alts := [], laidByText := true, laidKinds := [.data], laidTests := true, laidLooks := .later }
def BlockHeadsCardSaid : Prop := Claim7.holds Tryd.pinned (.plain (OpenSpec.ofChange blockHeadsSpec)) blockHeadsCard

/-- THE TIED CARD OF 'tailracelaw08.BlockBranches'. -/
def blockBranchesCard : Claim7 := { stood := { row := blockBranchesRow, standIns := [], harness := (true, "da9469f89faca3556aacb4a38d6e311ab47fc0aaad709862effdec5a9a1f41d1"), looks := false }, kinds := [], alts := [], laidByText := true, laidKinds := [.data], laidTests := true, laidLooks := .later }
def BlockBranchesCardSaid : Prop := Claim7.holds Tryd.pinned (.plain (OpenSpec.ofChange blockBranchesSpec)) blockBranchesCard

/-- THE SECOND FORM's CARD OF 'tailracelaw08.BlockHeads'. -/
def blockHeadsUptoCard : Claim7 := { stood := { row := blockHeadsUptoRow, standIns := [], harness := (true, "da9469f89faca3556aacb4a38d6e311ab47fc0aaad709862effdec5a9a1f41d1"), looks := false }, kinds := [], alts := [], laidByText := true, laidKinds := [.data], laidTests := true, laidLooks := .later }
def BlockHeadsUptoCardSaid : Prop := Claim7.holds Tryd.pinned (.plain (OpenSpec.upto blockHeadsSpec)) blockHeadsUptoCard

/-- THE SECOND FORM's CARD OF 'tailracelaw08.BlockBranches'. -/
def blockBranchesUptoCard : Claim7 := { stood := { row := blockBranchesUptoRow, standIns := [], harness := (true, "da9469f89faca3556aacb4a38d6e311ab47fc0aaad709862effdec5a9a1f41d1"), looks := false }, kinds := [], alts := [], laidByText := true, laidKinds := [.data], laidTests := true, laidLooks := .later }
def BlockBranchesUptoCardSaid : Prop := Claim7.holds Tryd.pinned (.plain (OpenSpec.upto blockBranchesSpec)) blockBranchesUptoCard
end Rows
end Go.Proofs.YtkokbpifjpmhlaaDoor
