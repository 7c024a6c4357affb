/-
  No cell of these rows narrows 'for every input' (looked for: loops, veiled, ifaces, maps, wideKeys, modest, calm, conditions, laid).
  DERIVED. THE GIVEN ROWS OF THIS SEAT. 5 by the template 'for every input the law returns true; each argument reads behind the call as it read before'; 0 by the template 'total and deterministic' (their statements: YtkdkihacpjhgmaaTotals.lean).
  GIVEN WITH THE SEED: the statements are not yours to turn. If you find one false, say at which input.
  Laid BY PROGRAM, IN A SANDBOX (cutbox-rows.mjs): the forced cells as the released guide's own fill.sh prints them over the translation 50f8c369096e4dd7… (all of the seat's roots in one cut). By AI agents, Wed Nov 11 2026. No macro, syntax, notation, axiom, sorry.
-/
import Derived.Test.YtkdkihacpjhgmaaChecked
import GoSem.Claim
import GoSem.ClaimJoined
import GoSem.ClaimMapViews
import Derived.JoinedTies
import Derived.KernelRfl
namespace Go.Proofs.Ytkdkihacpjhgmaa
/- THE CELL 'sum', in the pinned program and in every row, IS THE sha256 OF THE DUMP (.gsa) THAT YtkdkihacpjhgmaaProg.lean LOADS. Nothing in Lean hashes anything: it is a label: what it is worth is what the hold of that sum in a sandbox is worth. -/
noncomputable def Try.pinned : Pinned := { name := "ytkdkihacpjhgmaa", sum := "50f8c369096e4dd7249f309f50e56df7822df5bf4d5bb5ba63d9e2fd68a0188e", checked := Try.checked }
namespace Rows
def none {H : Type} : Left H := { results := [], args := [] }

/-- 'tailracelaw07.TxWrites': WHATEVER THE INPUT: true; the input reads as it did. -/
def txWritesSpec : ChangeSpec := { name := "txWrites", fn := fun _ => fun
  | [d1, d2] => { results := [.lit (.bool true)], args := [d1, d2] }
  | _ => none }
def txWritesRow : OpenClaim := { program := "ytkdkihacpjhgmaa", sum := "50f8c369096e4dd7249f309f50e56df7822df5bf4d5bb5ba63d9e2fd68a0188e", func := "tailrace/tailracelaw07.TxWrites", spec := "txWrites", apart := false }
def TxWritesSaid : Prop := txWritesRow.holds Try.pinned (OpenSpec.ofChange txWritesSpec)

/-- ITS FALSE NEIGHBOUR: 'it returns false'. Refute it at one input. -/
def txWritesWrong : ChangeSpec := { name := "txWrites", fn := fun _ => fun
  | [d1, d2] => { results := [.lit (.bool false)], args := [d1, d2] }
  | _ => none }
def TxWritesWrongFalsely : Prop := txWritesRow.holds Try.pinned (OpenSpec.ofChange txWritesWrong)

/-- 'tailracelaw07.TxReads': WHATEVER THE INPUT: true; the input reads as it did. -/
def txReadsSpec : ChangeSpec := { name := "txReads", fn := fun _ => fun
  | [d] => { results := [.lit (.bool true)], args := [d] }
  | _ => none }
def txReadsRow : OpenClaim := { program := "ytkdkihacpjhgmaa", sum := "50f8c369096e4dd7249f309f50e56df7822df5bf4d5bb5ba63d9e2fd68a0188e", func := "tailrace/tailracelaw07.TxReads", spec := "txReads", apart := false }
def TxReadsSaid : Prop := txReadsRow.holds Try.pinned (OpenSpec.ofChange txReadsSpec)

/-- ITS FALSE NEIGHBOUR: 'it returns false'. Refute it at one input. -/
def txReadsWrong : ChangeSpec := { name := "txReads", fn := fun _ => fun
  | [d] => { results := [.lit (.bool false)], args := [d] }
  | _ => none }
def TxReadsWrongFalsely : Prop := txReadsRow.holds Try.pinned (OpenSpec.ofChange txReadsWrong)

/-- 'tailracelaw07.TxCoins': WHATEVER THE INPUT: true; the input reads as it did. -/
def txCoinsSpec : ChangeSpec := { name := "txCoins", fn := fun _ => fun
  | [d] => { results := [.lit (.bool true)], args := [d] }
  | _ => none }
def txCoinsRow : OpenClaim := { program := "ytkdkihacpjhgmaa", sum := "50f8c369096e4dd7249f309f50e56df7822df5bf4d5bb5ba63d9e2fd68a0188e", func := "tailrace/tailracelaw07.TxCoins", spec := "txCoins", apart := false }
def TxCoinsSaid : Prop := txCoinsRow.holds Try.pinned (OpenSpec.ofChange txCoinsSpec)

/-- ITS FALSE NEIGHBOUR: 'it returns false'. Refute it at one input. -/
def txCoinsWrong : ChangeSpec := { name := "txCoins", fn := fun _ => fun
  | [d] => { results := [.lit (.bool false)], args := [d] }
  | _ => none }
def TxCoinsWrongFalsely : Prop := txCoinsRow.holds Try.pinned (OpenSpec.ofChange txCoinsWrong)

/-- 'tailracelaw07.TxCuts': WHATEVER THE INPUT: true; the input reads as it did. -/
def txCutsSpec : ChangeSpec := { name := "txCuts", fn := fun _ => fun
  | [d1, d2] => { results := [.lit (.bool true)], args := [d1, d2] }
  | _ => none }
def txCutsRow : OpenClaim := { program := "ytkdkihacpjhgmaa", sum := "50f8c369096e4dd7249f309f50e56df7822df5bf4d5bb5ba63d9e2fd68a0188e", func := "tailrace/tailracelaw07.TxCuts", spec := "txCuts", apart := false }
def TxCutsSaid : Prop := txCutsRow.holds Try.pinned (OpenSpec.ofChange txCutsSpec)

/-- ITS FALSE NEIGHBOUR: 'it returns false'. Refute it at one input. -/
def txCutsWrong : ChangeSpec := { name := "txCuts", fn := fun _ => fun
  | [d1, d2] => { results := [.lit (.bool false)], args := [d1, d2] }
  | _ => none }
def TxCutsWrongFalsely : Prop := txCutsRow.holds Try.pinned (OpenSpec.ofChange txCutsWrong)

/-- 'tailracelaw07.TxEdges': WHATEVER THE INPUT: true; the input reads as it did. -/
def txEdgesSpec : ChangeSpec := { name := "txEdges", fn := fun _ => fun
  | [d1, d2] => { results := [.lit (.bool true)], args := [d1, d2] }
  | _ => none }
def txEdgesRow : OpenClaim := { program := "ytkdkihacpjhgmaa", sum := "50f8c369096e4dd7249f309f50e56df7822df5bf4d5bb5ba63d9e2fd68a0188e", func := "tailrace/tailracelaw07.TxEdges", spec := "txEdges", apart := false }
def TxEdgesSaid : Prop := txEdgesRow.holds Try.pinned (OpenSpec.ofChange txEdgesSpec)

/-- ITS FALSE NEIGHBOUR: 'it returns false'. Refute it at one input. -/
def txEdgesWrong : ChangeSpec := { name := "txEdges", fn := fun _ => fun
  | [d1, d2] => { results := [.lit (.bool false)], args := [d1, d2] }
  | _ => none }
def TxEdgesWrongFalsely : Prop := txEdgesRow.holds Try.pinned (OpenSpec.ofChange txEdgesWrong)

/- THE SECOND FORM. 'bulk': how many values and letters a reading holds, each counted each time it is reached (what is shared counts as often as it is met; a slice's spare places count too). A statement '..UptoSaid' is the law's where the arguments, and the package variables that the reading takes, are together of bulk at most 1048576: NARROWER than '..Said'. Prove '..Said' where nothing that the law and all that it calls make is longer than what came in: it says more and counts as full. Else prove '..UptoSaid'. A law counts once. -/
mutual
def uptoBulk {H : Type} : DataW H → Nat
  | .lit (.string bytes) => bytes.length + 1
  | .lit _ => 1
  | .nil => 1
  | .ptr d => uptoBulk d + 1
  | .slice elems spare => uptoBulkAll elems + uptoBulkAll spare + 1
  | .agg parts => uptoBulkAll parts + 1
  | .iface _ d => uptoBulk d + 1
  | .map entries => uptoBulkEntries entries + 1
  | .held _ => 1
def uptoBulkAll {H : Type} : List (DataW H) → Nat
  | [] => 0
  | d :: r => uptoBulk d + uptoBulkAll r
def uptoBulkEntries {H : Type} : List (Lit × DataW H) → Nat
  | [] => 0
  | x :: r => uptoBulkEntry x + uptoBulkEntries r
def uptoBulkEntry {H : Type} : Lit × DataW H → Nat
  | (.string bytes, d) => bytes.length + uptoBulk d + 1
  | (_, d) => uptoBulk d + 1
 end
def uptoSmall : (H : Type) → List (DataW H) → Bool := fun _ ds => decide (uptoBulkAll ds ≤ 1048576)
def OpenSpec.upto (s : _root_.Go.ChangeSpec) : _root_.Go.OpenSpec := { _root_.Go.OpenSpec.ofChange s with cond := some uptoSmall }

/-- 'tailracelaw07.TxWrites', WHERE WHAT IT READS IS OF BULK AT MOST 1048576: true; the input reads as it did. -/
def txWritesUptoRow : OpenClaim := { program := "ytkdkihacpjhgmaa", sum := "50f8c369096e4dd7249f309f50e56df7822df5bf4d5bb5ba63d9e2fd68a0188e", func := "tailrace/tailracelaw07.TxWrites", spec := "txWrites", apart := false, narrowed := true }
def TxWritesUptoSaid : Prop := txWritesUptoRow.holds Try.pinned (OpenSpec.upto txWritesSpec)

/-- 'tailracelaw07.TxReads', WHERE WHAT IT READS IS OF BULK AT MOST 1048576: true; the input reads as it did. -/
def txReadsUptoRow : OpenClaim := { program := "ytkdkihacpjhgmaa", sum := "50f8c369096e4dd7249f309f50e56df7822df5bf4d5bb5ba63d9e2fd68a0188e", func := "tailrace/tailracelaw07.TxReads", spec := "txReads", apart := false, narrowed := true }
def TxReadsUptoSaid : Prop := txReadsUptoRow.holds Try.pinned (OpenSpec.upto txReadsSpec)

/-- 'tailracelaw07.TxCoins', WHERE WHAT IT READS IS OF BULK AT MOST 1048576: true; the input reads as it did. -/
def txCoinsUptoRow : OpenClaim := { program := "ytkdkihacpjhgmaa", sum := "50f8c369096e4dd7249f309f50e56df7822df5bf4d5bb5ba63d9e2fd68a0188e", func := "tailrace/tailracelaw07.TxCoins", spec := "txCoins", apart := false, narrowed := true }
def TxCoinsUptoSaid : Prop := txCoinsUptoRow.holds Try.pinned (OpenSpec.upto txCoinsSpec)

/-- 'tailracelaw07.TxCuts', WHERE WHAT IT READS IS OF BULK AT MOST 1048576: true; the input reads as it did. -/
def txCutsUptoRow : OpenClaim := { program := "ytkdkihacpjhgmaa", sum := "50f8c369096e4dd7249f309f50e56df7822df5bf4d5bb5ba63d9e2fd68a0188e", func := "tailrace/tailracelaw07.TxCuts", spec := "txCuts", apart := false, narrowed := true }
def TxCutsUptoSaid : Prop := txCutsUptoRow.holds Try.pinned (OpenSpec.upto txCutsSpec)

/-- 'tailracelaw07.TxEdges', WHERE WHAT IT READS IS OF BULK AT MOST 1048576: true; the input reads as it did. -/
def txEdgesUptoRow : OpenClaim := { program := "ytkdkihacpjhgmaa", sum := "50f8c369096e4dd7249f309f50e56df7822df5bf4d5bb5ba63d9e2fd68a0188e", func := "tailrace/tailracelaw07.TxEdges", spec := "txEdges", apart := false, narrowed := true }
def TxEdgesUptoSaid : Prop := txEdgesUptoRow.holds Try.pinned (OpenSpec.upto txEdgesSpec)

end Rows
end Go.Proofs.Ytkdkihacpjhgmaa
