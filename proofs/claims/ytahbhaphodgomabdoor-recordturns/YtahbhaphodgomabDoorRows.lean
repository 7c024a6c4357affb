/-
  NARROWER THAN 'FOR EVERY INPUT', by the rows' own cells (each row's printed sentence says how): RecordPuts: laid · RecordNexts: laid · RecordAlls: laid · RecordTurns: laid · RecordLong: laid · RecordAgain: laid.
  DERIVED. THE GIVEN ROWS OF THIS SEAT. 6 by the template 'for every input the law returns true; each argument reads behind the call as it read before'; 0 by the template 'total and deterministic' (their statements: YtahbhaphodgomabDoorTotals.lean).
  GIVEN WITH THE SEED: the statements are not yours to turn. If you find one false, say at which input.
  Laid BY PROGRAM, IN A SANDBOX (cutbox-rows.mjs): the forced cells as the released guide's own fill.sh prints them over the translation 1d0234a08ddd606e… (all of the seat's roots in one cut). By AI agents, Wed Nov 11 2026. No macro, syntax, notation, axiom, sorry.
-/
import Derived.Test.YtahbhaphodgomabDoorChecked
import GoSem.Claim
import GoSem.ClaimJoined
import GoSem.ClaimMapViews
import Derived.JoinedTies
import Derived.KernelRfl
namespace Go.Proofs.YtahbhaphodgomabDoor
/- THE CELL 'sum', in the pinned program and in every row, IS THE sha256 OF THE DUMP (.gsa) THAT YtahbhaphodgomabDoorProg.lean LOADS. Nothing in Lean hashes anything: it is a label: what it is worth is what the hold of that sum in a sandbox is worth. -/
noncomputable def Tryd.pinned : Pinned := { name := "ytahbhaphodgomabdoor", sum := "1d0234a08ddd606eaff78f9dd5de4139daaa4784ec111928eab35e99e3bd133c", checked := Tryd.checked }
namespace Rows
def none {H : Type} : Left H := { results := [], args := [] }

/- WHAT THE LISTED PACKAGE-LEVEL VARIABLES READ AS WHEN THE CALL BEGINS. Each datum BY PROGRAM (the guide's laid-datum.mjs) off the statement by which the dump's own 'gosem.cut.vars' lays the variable. In a bare row this is a premise. The card (YtahbhaphodgomabDoorCards.lean) ties it to the program's text. -/
def laid_tailrace_crc_nibbles {H : Type} : DataW H := .agg [.lit (.int .u32 0), .lit (.int .u32 274646895), .lit (.int .u32 549293790), .lit (.int .u32 820201905), .lit (.int .u32 1098587580), .lit (.int .u32 1361435347), .lit (.int .u32 1640403810), .lit (.int .u32 1905808397), .lit (.int .u32 2197175160), .lit (.int .u32 2460548119), .lit (.int .u32 2722870694), .lit (.int .u32 2987750089), .lit (.int .u32 3280807620), .lit (.int .u32 3553878443), .lit (.int .u32 3811616794), .lit (.int .u32 4084100981)]

/-- 'tailracelaw05.RecordPuts': WHATEVER THE INPUT: true; the input reads as it did. -/
def recordPutsSpec : ChangeSpec := { name := "recordPuts", fn := fun _ => fun
  | [d1, d2, d3] => { results := [.lit (.bool true)], args := [d1, d2, d3] }
  | _ => none }
def recordPutsRow : OpenClaim := { program := "ytahbhaphodgomabdoor", sum := "1d0234a08ddd606eaff78f9dd5de4139daaa4784ec111928eab35e99e3bd133c", func := "tailrace/tailracelaw05.RecordPuts", spec := "recordPuts", named := ["tailrace/crc.nibbles"], apart := false, laid := [("tailrace/crc.nibbles", laid_tailrace_crc_nibbles)] }
def RecordPutsSaid : Prop := recordPutsRow.holds Tryd.pinned (OpenSpec.ofChange recordPutsSpec)

/-- ITS FALSE NEIGHBOUR: 'it returns false'. Refute it at one input. -/
def recordPutsWrong : ChangeSpec := { name := "recordPuts", fn := fun _ => fun
  | [d1, d2, d3] => { results := [.lit (.bool false)], args := [d1, d2, d3] }
  | _ => none }
def RecordPutsWrongFalsely : Prop := recordPutsRow.holds Tryd.pinned (OpenSpec.ofChange recordPutsWrong)

/-- 'tailracelaw05.RecordNexts': WHATEVER THE INPUT: true; the input reads as it did. -/
def recordNextsSpec : ChangeSpec := { name := "recordNexts", fn := fun _ => fun
  | [d] => { results := [.lit (.bool true)], args := [d] }
  | _ => none }
def recordNextsRow : OpenClaim := { program := "ytahbhaphodgomabdoor", sum := "1d0234a08ddd606eaff78f9dd5de4139daaa4784ec111928eab35e99e3bd133c", func := "tailrace/tailracelaw05.RecordNexts", spec := "recordNexts", named := ["tailrace/crc.nibbles"], apart := false, laid := [("tailrace/crc.nibbles", laid_tailrace_crc_nibbles)] }
def RecordNextsSaid : Prop := recordNextsRow.holds Tryd.pinned (OpenSpec.ofChange recordNextsSpec)

/-- ITS FALSE NEIGHBOUR: 'it returns false'. Refute it at one input. -/
def recordNextsWrong : ChangeSpec := { name := "recordNexts", fn := fun _ => fun
  | [d] => { results := [.lit (.bool false)], args := [d] }
  | _ => none }
def RecordNextsWrongFalsely : Prop := recordNextsRow.holds Tryd.pinned (OpenSpec.ofChange recordNextsWrong)

/-- 'tailracelaw05.RecordAlls': WHATEVER THE INPUT: true; the input reads as it did. -/
def recordAllsSpec : ChangeSpec := { name := "recordAlls", fn := fun _ => fun
  | [d1, d2] => { results := [.lit (.bool true)], args := [d1, d2] }
  | _ => none }
def recordAllsRow : OpenClaim := { program := "ytahbhaphodgomabdoor", sum := "1d0234a08ddd606eaff78f9dd5de4139daaa4784ec111928eab35e99e3bd133c", func := "tailrace/tailracelaw05.RecordAlls", spec := "recordAlls", named := ["tailrace/crc.nibbles"], apart := false, laid := [("tailrace/crc.nibbles", laid_tailrace_crc_nibbles)] }
def RecordAllsSaid : Prop := recordAllsRow.holds Tryd.pinned (OpenSpec.ofChange recordAllsSpec)

/-- ITS FALSE NEIGHBOUR: 'it returns false'. Refute it at one input. -/
def recordAllsWrong : ChangeSpec := { name := "recordAlls", fn := fun _ => fun
  | [d1, d2] => { results := [.lit (.bool false)], args := [d1, d2] }
  | _ => none }
def RecordAllsWrongFalsely : Prop := recordAllsRow.holds Tryd.pinned (OpenSpec.ofChange recordAllsWrong)

/-- 'tailracelaw05.RecordTurns': WHATEVER THE INPUT: true; the input reads as it did. -/
def recordTurnsSpec : ChangeSpec := { name := "recordTurns", fn := fun _ => fun
  | [d1, d2, d3, d4, d5] => { results := [.lit (.bool true)], args := [d1, d2, d3, d4, d5] }
  | _ => none }
def recordTurnsRow : OpenClaim := { program := "ytahbhaphodgomabdoor", sum := "1d0234a08ddd606eaff78f9dd5de4139daaa4784ec111928eab35e99e3bd133c", func := "tailrace/tailracelaw05.RecordTurns", spec := "recordTurns", named := ["tailrace/crc.nibbles"], apart := false, laid := [("tailrace/crc.nibbles", laid_tailrace_crc_nibbles)] }
def RecordTurnsSaid : Prop := recordTurnsRow.holds Tryd.pinned (OpenSpec.ofChange recordTurnsSpec)

/-- ITS FALSE NEIGHBOUR: 'it returns false'. Refute it at one input. -/
def recordTurnsWrong : ChangeSpec := { name := "recordTurns", fn := fun _ => fun
  | [d1, d2, d3, d4, d5] => { results := [.lit (.bool false)], args := [d1, d2, d3, d4, d5] }
  | _ => none }
def RecordTurnsWrongFalsely : Prop := recordTurnsRow.holds Tryd.pinned (OpenSpec.ofChange recordTurnsWrong)

/-- 'tailracelaw05.RecordLong': WHATEVER THE INPUT: true; the input reads as it did. -/
def recordLongSpec : ChangeSpec := { name := "recordLong", fn := fun _ => fun
  | [d1, d2] => { results := [.lit (.bool true)], args := [d1, d2] }
  | _ => none }
def recordLongRow : OpenClaim := { program := "ytahbhaphodgomabdoor", sum := "1d0234a08ddd606eaff78f9dd5de4139daaa4784ec111928eab35e99e3bd133c", func := "tailrace/tailracelaw05.RecordLong", spec := "recordLong", named := ["tailrace/crc.nibbles"], apart := false, laid := [("tailrace/crc.nibbles", laid_tailrace_crc_nibbles)] }
def RecordLongSaid : Prop := recordLongRow.holds Tryd.pinned (OpenSpec.ofChange recordLongSpec)

/-- ITS FALSE NEIGHBOUR: 'it returns false'. Refute it at one input. -/
def recordLongWrong : ChangeSpec := { name := "recordLong", fn := fun _ => fun
  | [d1, d2] => { results := [.lit (.bool false)], args := [d1, d2] }
  | _ => none }
def RecordLongWrongFalsely : Prop := recordLongRow.holds Tryd.pinned (OpenSpec.ofChange recordLongWrong)

/-- 'tailracelaw05.RecordAgain': WHATEVER THE INPUT: true; the input reads as it did. -/
def recordAgainSpec : ChangeSpec := { name := "recordAgain", fn := fun _ => fun
  | [d] => { results := [.lit (.bool true)], args := [d] }
  | _ => none }
def recordAgainRow : OpenClaim := { program := "ytahbhaphodgomabdoor", sum := "1d0234a08ddd606eaff78f9dd5de4139daaa4784ec111928eab35e99e3bd133c", func := "tailrace/tailracelaw05.RecordAgain", spec := "recordAgain", named := ["tailrace/crc.nibbles"], apart := false, laid := [("tailrace/crc.nibbles", laid_tailrace_crc_nibbles)] }
def RecordAgainSaid : Prop := recordAgainRow.holds Tryd.pinned (OpenSpec.ofChange recordAgainSpec)

/-- ITS FALSE NEIGHBOUR: 'it returns false'. Refute it at one input. -/
def recordAgainWrong : ChangeSpec := { name := "recordAgain", fn := fun _ => fun
  | [d] => { results := [.lit (.bool false)], args := [d] }
  | _ => none }
def RecordAgainWrongFalsely : Prop := recordAgainRow.holds Tryd.pinned (OpenSpec.ofChange recordAgainWrong)

/- THE SECOND FORM. 'bulk': how many values and letters a reading holds, each counted each time it is reached (what is shared counts as often as it is met; a slice's spare places count too). A statement '..UptoSaid' is the law's where the arguments, and the package variables that the reading takes, are together of bulk at most 1048576: NARROWER than '..Said'. Prove '..Said' where nothing that the law and all that it calls make is longer than what came in: it says more and counts as full. Else prove '..UptoSaid'. A law counts once. -/
mutual
def uptoBulk {H : Type} : DataW H → Nat
  | .lit (.string bytes) => bytes.length + 1
  | .lit _ => 1
  | .nil => 1
  | .ptr d => uptoBulk d + 1
  | .slice elems spare => uptoBulkAll elems + uptoBulkAll spare + 1
  | .agg parts => uptoBulkAll parts + 1
  | .iface _ d => uptoBulk d + 1
  | .map entries => uptoBulkEntries entries + 1
  | .held _ => 1
def uptoBulkAll {H : Type} : List (DataW H) → Nat
  | [] => 0
  | d :: r => uptoBulk d + uptoBulkAll r
def uptoBulkEntries {H : Type} : List (Lit × DataW H) → Nat
  | [] => 0
  | x :: r => uptoBulkEntry x + uptoBulkEntries r
def uptoBulkEntry {H : Type} : Lit × DataW H → Nat
  | (.string bytes, d) => bytes.length + uptoBulk d + 1
  | (_, d) => uptoBulk d + 1
 end
def uptoSmall : (H : Type) → List (DataW H) → Bool := fun _ ds => decide (uptoBulkAll ds ≤ 1048576)
def OpenSpec.upto (s : _root_.Go.ChangeSpec) : _root_.Go.OpenSpec := { _root_.Go.OpenSpec.ofChange s with cond := some uptoSmall }

/-- 'tailracelaw05.RecordPuts', WHERE WHAT IT READS IS OF BULK AT MOST 1048576: true; the input reads as it did. -/
def recordPutsUptoRow : OpenClaim := { program := "ytahbhaphodgomabdoor", sum := "1d0234a08ddd606eaff78f9dd5de4139daaa4784ec111928eab35e99e3bd133c", func := "tailrace/tailracelaw05.RecordPuts", spec := "recordPuts", named := ["tailrace/crc.nibbles"], apart := false, laid := [("tailrace/crc.nibbles", laid_tailrace_crc_nibbles)], narrowed := true }
def RecordPutsUptoSaid : Prop := recordPutsUptoRow.holds Tryd.pinned (OpenSpec.upto recordPutsSpec)

/-- 'tailracelaw05.RecordNexts', WHERE WHAT IT READS IS OF BULK AT MOST 1048576: true; the input reads as it did. -/
def recordNextsUptoRow : OpenClaim := { program := "ytahbhaphodgomabdoor", sum := "1d0234a08ddd606eaff78f9dd5de4139daaa4784ec111928eab35e99e3bd133c", func := "tailrace/tailracelaw05.RecordNexts", spec := "recordNexts", named := ["tailrace/crc.nibbles"], apart := false, laid := [("tailrace/crc.nibbles", laid_tailrace_crc_nibbles)], narrowed := true }
def RecordNextsUptoSaid : Prop := recordNextsUptoRow.holds Tryd.pinned (OpenSpec.upto recordNextsSpec)

/-- 'tailracelaw05.RecordAlls', WHERE WHAT IT READS IS OF BULK AT MOST 1048576: true; the input reads as it did. -/
def recordAllsUptoRow : OpenClaim := { program := "ytahbhaphodgomabdoor", sum := "1d0234a08ddd606eaff78f9dd5de4139daaa4784ec111928eab35e99e3bd133c", func := "tailrace/tailracelaw05.RecordAlls", spec := "recordAlls", named := ["tailrace/crc.nibbles"], apart := false, laid := [("tailrace/crc.nibbles", laid_tailrace_crc_nibbles)], narrowed := true }
def RecordAllsUptoSaid : Prop := recordAllsUptoRow.holds Tryd.pinned (OpenSpec.upto recordAllsSpec)

/-- 'tailracelaw05.RecordTurns', WHERE WHAT IT READS IS OF BULK AT MOST 1048576: true; the input reads as it did. -/
def recordTurnsUptoRow : OpenClaim := { program := "ytahbhaphodgomabdoor", sum := "1d0234a08ddd606eaff78f9dd5de4139daaa4784ec111928eab35e99e3bd133c", func := "tailrace/tailracelaw05.RecordTurns", spec := "recordTurns", named := ["tailrace/crc.nibbles"], apart := false, laid := [("tailrace/crc.nibbles", laid_tailrace_crc_nibbles)], narrowed := true }
def RecordTurnsUptoSaid : Prop := recordTurnsUptoRow.holds Tryd.pinned (OpenSpec.upto recordTurnsSpec)

/-- 'tailracelaw05.RecordLong', WHERE WHAT IT READS IS OF BULK AT MOST 1048576: true; the input reads as it did. -/
def recordLongUptoRow : OpenClaim := { program := "ytahbhaphodgomabdoor", sum := "1d0234a08ddd606eaff78f9dd5de4139daaa4784ec111928eab35e99e3bd133c", func := "tailrace/tailracelaw05.RecordLong", spec := "recordLong", named := ["tailrace/crc.nibbles"], apart := false, laid := [("tailrace/crc.nibbles", laid_tailrace_crc_nibbles)], narrowed := true }
def RecordLongUptoSaid : Prop := recordLongUptoRow.holds Tryd.pinned (OpenSpec.upto recordLongSpec)

/-- 'tailracelaw05.RecordAgain', WHERE WHAT IT READS IS OF BULK AT MOST 1048576: true; the input reads as it did. -/
def recordAgainUptoRow : OpenClaim := { program := "ytahbhaphodgomabdoor", sum := "1d0234a08ddd606eaff78f9dd5de4139daaa4784ec111928eab35e99e3bd133c", func := "tailrace/tailracelaw05.RecordAgain", spec := "recordAgain", named := ["tailrace/crc.nibbles"], apart := false, laid := [("tailrace/crc.nibbles", laid_tailrace_crc_nibbles)], narrowed := true }
def RecordAgainUptoSaid : Prop := recordAgainUptoRow.holds Tryd.pinned (OpenSpec.upto recordAgainSpec)

end Rows
end Go.Proofs.YtahbhaphodgomabDoor
