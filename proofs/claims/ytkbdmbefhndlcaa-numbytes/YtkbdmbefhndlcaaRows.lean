/-
  No cell of these rows narrows 'for every input' (looked for: loops, veiled, ifaces, maps, wideKeys, modest, calm, conditions, laid).
  DERIVED. THE GIVEN ROWS OF THIS SEAT. 7 by the template 'for every input the law returns true; each argument reads behind the call as it read before'; 0 by the template 'total and deterministic' (their statements: YtkbdmbefhndlcaaTotals.lean).
  GIVEN WITH THE SEED: the statements are not yours to turn. If you find one false, say at which input.
  Laid BY PROGRAM, IN A SANDBOX (cutbox-rows.mjs): the forced cells as the released guide's own fill.sh prints them over the translation 97f0b71e2af804f0… (all of the seat's roots in one cut). By AI agents, Wed Nov 11 2026. No macro, syntax, notation, axiom, sorry.
-/
import Derived.Test.YtkbdmbefhndlcaaChecked
import GoSem.Claim
import GoSem.ClaimJoined
import GoSem.ClaimMapViews
import Derived.JoinedTies
import Derived.KernelRfl
namespace Go.Proofs.Ytkbdmbefhndlcaa
/- THE CELL 'sum', in the pinned program and in every row, IS THE sha256 OF THE DUMP (.gsa) THAT YtkbdmbefhndlcaaProg.lean LOADS. Nothing in Lean hashes anything: it is a label: what it is worth is what the hold of that sum in a sandbox is worth. -/
noncomputable def Try.pinned : Pinned := { name := "ytkbdmbefhndlcaa", sum := "97f0b71e2af804f06fe6ad4e7e37a18b95837ceded96968464ea88b210c7f461", checked := Try.checked }
namespace Rows
def none {H : Type} : Left H := { results := [], args := [] }

/-- 'tailracelaw01.NumPuts': WHATEVER THE INPUT: true; the input reads as it did. -/
def numPutsSpec : ChangeSpec := { name := "numPuts", fn := fun _ => fun
  | [d1, d2] => { results := [.lit (.bool true)], args := [d1, d2] }
  | _ => none }
def numPutsRow : OpenClaim := { program := "ytkbdmbefhndlcaa", sum := "97f0b71e2af804f06fe6ad4e7e37a18b95837ceded96968464ea88b210c7f461", func := "tailrace/tailracelaw01.NumPuts", spec := "numPuts", apart := false }
def NumPutsSaid : Prop := numPutsRow.holds Try.pinned (OpenSpec.ofChange numPutsSpec)

/-- ITS FALSE NEIGHBOUR: 'it returns false'. Refute it at one input. -/
def numPutsWrong : ChangeSpec := { name := "numPuts", fn := fun _ => fun
  | [d1, d2] => { results := [.lit (.bool false)], args := [d1, d2] }
  | _ => none }
def NumPutsWrongFalsely : Prop := numPutsRow.holds Try.pinned (OpenSpec.ofChange numPutsWrong)

/-- 'tailracelaw01.NumGets': WHATEVER THE INPUT: true; the input reads as it did. -/
def numGetsSpec : ChangeSpec := { name := "numGets", fn := fun _ => fun
  | [d] => { results := [.lit (.bool true)], args := [d] }
  | _ => none }
def numGetsRow : OpenClaim := { program := "ytkbdmbefhndlcaa", sum := "97f0b71e2af804f06fe6ad4e7e37a18b95837ceded96968464ea88b210c7f461", func := "tailrace/tailracelaw01.NumGets", spec := "numGets", apart := false }
def NumGetsSaid : Prop := numGetsRow.holds Try.pinned (OpenSpec.ofChange numGetsSpec)

/-- ITS FALSE NEIGHBOUR: 'it returns false'. Refute it at one input. -/
def numGetsWrong : ChangeSpec := { name := "numGets", fn := fun _ => fun
  | [d] => { results := [.lit (.bool false)], args := [d] }
  | _ => none }
def NumGetsWrongFalsely : Prop := numGetsRow.holds Try.pinned (OpenSpec.ofChange numGetsWrong)

/-- 'tailracelaw01.NumCompacts': WHATEVER THE INPUT: true; the input reads as it did. -/
def numCompactsSpec : ChangeSpec := { name := "numCompacts", fn := fun _ => fun
  | [d1, d2] => { results := [.lit (.bool true)], args := [d1, d2] }
  | _ => none }
def numCompactsRow : OpenClaim := { program := "ytkbdmbefhndlcaa", sum := "97f0b71e2af804f06fe6ad4e7e37a18b95837ceded96968464ea88b210c7f461", func := "tailrace/tailracelaw01.NumCompacts", spec := "numCompacts", apart := false }
def NumCompactsSaid : Prop := numCompactsRow.holds Try.pinned (OpenSpec.ofChange numCompactsSpec)

/-- ITS FALSE NEIGHBOUR: 'it returns false'. Refute it at one input. -/
def numCompactsWrong : ChangeSpec := { name := "numCompacts", fn := fun _ => fun
  | [d1, d2] => { results := [.lit (.bool false)], args := [d1, d2] }
  | _ => none }
def NumCompactsWrongFalsely : Prop := numCompactsRow.holds Try.pinned (OpenSpec.ofChange numCompactsWrong)

/-- 'tailracelaw01.NumExpands': WHATEVER THE INPUT: true; the input reads as it did. -/
def numExpandsSpec : ChangeSpec := { name := "numExpands", fn := fun _ => fun
  | [d] => { results := [.lit (.bool true)], args := [d] }
  | _ => none }
def numExpandsRow : OpenClaim := { program := "ytkbdmbefhndlcaa", sum := "97f0b71e2af804f06fe6ad4e7e37a18b95837ceded96968464ea88b210c7f461", func := "tailrace/tailracelaw01.NumExpands", spec := "numExpands", apart := false }
def NumExpandsSaid : Prop := numExpandsRow.holds Try.pinned (OpenSpec.ofChange numExpandsSpec)

/-- ITS FALSE NEIGHBOUR: 'it returns false'. Refute it at one input. -/
def numExpandsWrong : ChangeSpec := { name := "numExpands", fn := fun _ => fun
  | [d] => { results := [.lit (.bool false)], args := [d] }
  | _ => none }
def NumExpandsWrongFalsely : Prop := numExpandsRow.holds Try.pinned (OpenSpec.ofChange numExpandsWrong)

/-- 'tailracelaw01.NumBytes': WHATEVER THE INPUT: true; the input reads as it did. -/
def numBytesSpec : ChangeSpec := { name := "numBytes", fn := fun _ => fun
  | [d1, d2, d3] => { results := [.lit (.bool true)], args := [d1, d2, d3] }
  | _ => none }
def numBytesRow : OpenClaim := { program := "ytkbdmbefhndlcaa", sum := "97f0b71e2af804f06fe6ad4e7e37a18b95837ceded96968464ea88b210c7f461", func := "tailrace/tailracelaw01.NumBytes", spec := "numBytes", apart := false }
def NumBytesSaid : Prop := numBytesRow.holds Try.pinned (OpenSpec.ofChange numBytesSpec)

/-- ITS FALSE NEIGHBOUR: 'it returns false'. Refute it at one input. -/
def numBytesWrong : ChangeSpec := { name := "numBytes", fn := fun _ => fun
  | [d1, d2, d3] => { results := [.lit (.bool false)], args := [d1, d2, d3] }
  | _ => none }
def NumBytesWrongFalsely : Prop := numBytesRow.holds Try.pinned (OpenSpec.ofChange numBytesWrong)

/-- 'tailracelaw01.NumOrders': WHATEVER THE INPUT: true; the input reads as it did. -/
def numOrdersSpec : ChangeSpec := { name := "numOrders", fn := fun _ => fun
  | [d1, d2] => { results := [.lit (.bool true)], args := [d1, d2] }
  | _ => none }
def numOrdersRow : OpenClaim := { program := "ytkbdmbefhndlcaa", sum := "97f0b71e2af804f06fe6ad4e7e37a18b95837ceded96968464ea88b210c7f461", func := "tailrace/tailracelaw01.NumOrders", spec := "numOrders", apart := false }
def NumOrdersSaid : Prop := numOrdersRow.holds Try.pinned (OpenSpec.ofChange numOrdersSpec)

/-- ITS FALSE NEIGHBOUR: 'it returns false'. Refute it at one input. -/
def numOrdersWrong : ChangeSpec := { name := "numOrders", fn := fun _ => fun
  | [d1, d2] => { results := [.lit (.bool false)], args := [d1, d2] }
  | _ => none }
def NumOrdersWrongFalsely : Prop := numOrdersRow.holds Try.pinned (OpenSpec.ofChange numOrdersWrong)

/-- 'tailracelaw01.NumLines': WHATEVER THE INPUT: true; the input reads as it did. -/
def numLinesSpec : ChangeSpec := { name := "numLines", fn := fun _ => fun
  | [d] => { results := [.lit (.bool true)], args := [d] }
  | _ => none }
def numLinesRow : OpenClaim := { program := "ytkbdmbefhndlcaa", sum := "97f0b71e2af804f06fe6ad4e7e37a18b95837ceded96968464ea88b210c7f461", func := "tailrace/tailracelaw01.NumLines", spec := "numLines", apart := false }
def NumLinesSaid : Prop := numLinesRow.holds Try.pinned (OpenSpec.ofChange numLinesSpec)

/-- ITS FALSE NEIGHBOUR: 'it returns false'. Refute it at one input. -/
def numLinesWrong : ChangeSpec := { name := "numLines", fn := fun _ => fun
  | [d] => { results := [.lit (.bool false)], args := [d] }
  | _ => none }
def NumLinesWrongFalsely : Prop := numLinesRow.holds Try.pinned (OpenSpec.ofChange numLinesWrong)

/- THE SECOND FORM. 'bulk': how many values and letters a reading holds, each counted each time it is reached (what is shared counts as often as it is met; a slice's spare places count too). A statement '..UptoSaid' is the law's where the arguments, and the package variables that the reading takes, are together of bulk at most 1048576: NARROWER than '..Said'. Prove '..Said' where nothing that the law and all that it calls make is longer than what came in: it says more and counts as full. Else prove '..UptoSaid'. A law counts once. -/
mutual
def uptoBulk {H : Type} : DataW H → Nat
  | .lit (.string bytes) => bytes.length + 1
  | .lit _ => 1
  | .nil => 1
  | .ptr d => uptoBulk d + 1
  | .slice elems spare => uptoBulkAll elems + uptoBulkAll spare + 1
  | .agg parts => uptoBulkAll parts + 1
  | .iface _ d => uptoBulk d + 1
  | .map entries => uptoBulkEntries entries + 1
  | .held _ => 1
def uptoBulkAll {H : Type} : List (DataW H) → Nat
  | [] => 0
  | d :: r => uptoBulk d + uptoBulkAll r
def uptoBulkEntries {H : Type} : List (Lit × DataW H) → Nat
  | [] => 0
  | x :: r => uptoBulkEntry x + uptoBulkEntries r
def uptoBulkEntry {H : Type} : Lit × DataW H → Nat
  | (.string bytes, d) => bytes.length + uptoBulk d + 1
  | (_, d) => uptoBulk d + 1
 end
def uptoSmall : (H : Type) → List (DataW H) → Bool := fun _ ds => decide (uptoBulkAll ds ≤ 1048576)
def OpenSpec.upto (s : _root_.Go.ChangeSpec) : _root_.Go.OpenSpec := { _root_.Go.OpenSpec.ofChange s with cond := some uptoSmall }

/-- 'tailracelaw01.NumPuts', WHERE WHAT IT READS IS OF BULK AT MOST 1048576: true; the input reads as it did. -/
def numPutsUptoRow : OpenClaim := { program := "ytkbdmbefhndlcaa", sum := "97f0b71e2af804f06fe6ad4e7e37a18b95837ceded96968464ea88b210c7f461", func := "tailrace/tailracelaw01.NumPuts", spec := "numPuts", apart := false, narrowed := true }
def NumPutsUptoSaid : Prop := numPutsUptoRow.holds Try.pinned (OpenSpec.upto numPutsSpec)

/-- 'tailracelaw01.NumGets', WHERE WHAT IT READS IS OF BULK AT MOST 1048576: true; the input reads as it did. -/
def numGetsUptoRow : OpenClaim := { program := "ytkbdmbefhndlcaa", sum := "97f0b71e2af804f06fe6ad4e7e37a18b95837ceded96968464ea88b210c7f461", func := "tailrace/tailracelaw01.NumGets", spec := "numGets", apart := false, narrowed := true }
def NumGetsUptoSaid : Prop := numGetsUptoRow.holds Try.pinned (OpenSpec.upto numGetsSpec)

/-- 'tailracelaw01.NumCompacts', WHERE WHAT IT READS IS OF BULK AT MOST 1048576: true; the input reads as it did. -/
def numCompactsUptoRow : OpenClaim := { program := "ytkbdmbefhndlcaa", sum := "97f0b71e2af804f06fe6ad4e7e37a18b95837ceded96968464ea88b210c7f461", func := "tailrace/tailracelaw01.NumCompacts", spec := "numCompacts", apart := false, narrowed := true }
def NumCompactsUptoSaid : Prop := numCompactsUptoRow.holds Try.pinned (OpenSpec.upto numCompactsSpec)

/-- 'tailracelaw01.NumExpands', WHERE WHAT IT READS IS OF BULK AT MOST 1048576: true; the input reads as it did. -/
def numExpandsUptoRow : OpenClaim := { program := "ytkbdmbefhndlcaa", sum := "97f0b71e2af804f06fe6ad4e7e37a18b95837ceded96968464ea88b210c7f461", func := "tailrace/tailracelaw01.NumExpands", spec := "numExpands", apart := false, narrowed := true }
def NumExpandsUptoSaid : Prop := numExpandsUptoRow.holds Try.pinned (OpenSpec.upto numExpandsSpec)

/-- 'tailracelaw01.NumBytes', WHERE WHAT IT READS IS OF BULK AT MOST 1048576: true; the input reads as it did. -/
def numBytesUptoRow : OpenClaim := { program := "ytkbdmbefhndlcaa", sum := "97f0b71e2af804f06fe6ad4e7e37a18b95837ceded96968464ea88b210c7f461", func := "tailrace/tailracelaw01.NumBytes", spec := "numBytes", apart := false, narrowed := true }
def NumBytesUptoSaid : Prop := numBytesUptoRow.holds Try.pinned (OpenSpec.upto numBytesSpec)

/-- 'tailracelaw01.NumOrders', WHERE WHAT IT READS IS OF BULK AT MOST 1048576: true; the input reads as it did. -/
def numOrdersUptoRow : OpenClaim := { program := "ytkbdmbefhndlcaa", sum := "97f0b71e2af804f06fe6ad4e7e37a18b95837ceded96968464ea88b210c7f461", func := "tailrace/tailracelaw01.NumOrders", spec := "numOrders", apart := false, narrowed := true }
def NumOrdersUptoSaid : Prop := numOrdersUptoRow.holds Try.pinned (OpenSpec.upto numOrdersSpec)

/-- 'tailracelaw01.NumLines', WHERE WHAT IT READS IS OF BULK AT MOST 1048576: true; the input reads as it did. -/
def numLinesUptoRow : OpenClaim := { program := "ytkbdmbefhndlcaa", sum := "97f0b71e2af804f06fe6ad4e7e37a18b95837ceded96968464ea88b210c7f461", func := "tailrace/tailracelaw01.NumLines", spec := "numLines", apart := false, narrowed := true }
def NumLinesUptoSaid : Prop := numLinesUptoRow.holds Try.pinned (OpenSpec.upto numLinesSpec)

end Rows
end Go.Proofs.Ytkbdmbefhndlcaa
