/-
  No cell of these rows narrows 'for every input' (looked for: loops, veiled, ifaces, maps, wideKeys, modest, calm, conditions, laid).
  DERIVED. THE GIVEN ROWS OF THIS SEAT. 5 by the template 'for every input the law returns true; each argument reads behind the call as it read before'; 0 by the template 'total and deterministic' (their statements: YtgdkcnpgnmmliabTotals.lean).
  GIVEN WITH THE SEED: the statements are not yours to turn. If you find one false, say at which input.
  Laid BY PROGRAM, IN A SANDBOX (cutbox-rows.mjs): the forced cells as the released guide's own fill.sh prints them over the translation 7af09550e0f7aa9a… (all of the seat's roots in one cut). By AI agents, Wed Nov 11 2026. No macro, syntax, notation, axiom, sorry.
-/
import Derived.Test.YtgdkcnpgnmmliabChecked
import GoSem.Claim
import GoSem.ClaimJoined
import GoSem.ClaimMapViews
import Derived.JoinedTies
import Derived.KernelRfl
namespace Go.Proofs.Ytgdkcnpgnmmliab
/- THE CELL 'sum', in the pinned program and in every row, IS THE sha256 OF THE DUMP (.gsa) THAT YtgdkcnpgnmmliabProg.lean LOADS. Nothing in Lean hashes anything: it is a label: what it is worth is what the hold of that sum in a sandbox is worth. -/
noncomputable def Try.pinned : Pinned := { name := "ytgdkcnpgnmmliab", sum := "7af09550e0f7aa9a254a9c8c3edb37223d0d072e43a502251131153479bcca34", checked := Try.checked }
namespace Rows
def none {H : Type} : Left H := { results := [], args := [] }

/-- 'tailracelaw10.MemSorts': WHATEVER THE INPUT: true; the input reads as it did. -/
def memSortsSpec : ChangeSpec := { name := "memSorts", fn := fun _ => fun
  | [d] => { results := [.lit (.bool true)], args := [d] }
  | _ => none }
def memSortsRow : OpenClaim := { program := "ytgdkcnpgnmmliab", sum := "7af09550e0f7aa9a254a9c8c3edb37223d0d072e43a502251131153479bcca34", func := "tailrace/tailracelaw10.MemSorts", spec := "memSorts", inPlace := ["slices.overlaps[int]"], unfollowed := true, recurses := true, apart := false }
def MemSortsSaid : Prop := memSortsRow.holds Try.pinned (OpenSpec.ofChange memSortsSpec)

/-- ITS FALSE NEIGHBOUR: 'it returns false'. Refute it at one input. -/
def memSortsWrong : ChangeSpec := { name := "memSorts", fn := fun _ => fun
  | [d] => { results := [.lit (.bool false)], args := [d] }
  | _ => none }
def MemSortsWrongFalsely : Prop := memSortsRow.holds Try.pinned (OpenSpec.ofChange memSortsWrong)

/-- 'tailracelaw10.MemAdds': WHATEVER THE INPUT: true; the input reads as it did. -/
def memAddsSpec : ChangeSpec := { name := "memAdds", fn := fun _ => fun
  | [d] => { results := [.lit (.bool true)], args := [d] }
  | _ => none }
def memAddsRow : OpenClaim := { program := "ytgdkcnpgnmmliab", sum := "7af09550e0f7aa9a254a9c8c3edb37223d0d072e43a502251131153479bcca34", func := "tailrace/tailracelaw10.MemAdds", spec := "memAdds", inPlace := ["slices.overlaps[tailrace/key.Entry]"], unfollowed := true, recurses := true, apart := false }
def MemAddsSaid : Prop := memAddsRow.holds Try.pinned (OpenSpec.ofChange memAddsSpec)

/-- ITS FALSE NEIGHBOUR: 'it returns false'. Refute it at one input. -/
def memAddsWrong : ChangeSpec := { name := "memAdds", fn := fun _ => fun
  | [d] => { results := [.lit (.bool false)], args := [d] }
  | _ => none }
def MemAddsWrongFalsely : Prop := memAddsRow.holds Try.pinned (OpenSpec.ofChange memAddsWrong)

/-- 'tailracelaw10.MemGets': WHATEVER THE INPUT: true; the input reads as it did. -/
def memGetsSpec : ChangeSpec := { name := "memGets", fn := fun _ => fun
  | [d1, d2, d3] => { results := [.lit (.bool true)], args := [d1, d2, d3] }
  | _ => none }
def memGetsRow : OpenClaim := { program := "ytgdkcnpgnmmliab", sum := "7af09550e0f7aa9a254a9c8c3edb37223d0d072e43a502251131153479bcca34", func := "tailrace/tailracelaw10.MemGets", spec := "memGets", inPlace := ["slices.overlaps[tailrace/key.Entry]"], unfollowed := true, recurses := true, apart := false }
def MemGetsSaid : Prop := memGetsRow.holds Try.pinned (OpenSpec.ofChange memGetsSpec)

/-- ITS FALSE NEIGHBOUR: 'it returns false'. Refute it at one input. -/
def memGetsWrong : ChangeSpec := { name := "memGets", fn := fun _ => fun
  | [d1, d2, d3] => { results := [.lit (.bool false)], args := [d1, d2, d3] }
  | _ => none }
def MemGetsWrongFalsely : Prop := memGetsRow.holds Try.pinned (OpenSpec.ofChange memGetsWrong)

/-- 'tailracelaw10.MemFroms': WHATEVER THE INPUT: true; the input reads as it did. -/
def memFromsSpec : ChangeSpec := { name := "memFroms", fn := fun _ => fun
  | [d1, d2] => { results := [.lit (.bool true)], args := [d1, d2] }
  | _ => none }
def memFromsRow : OpenClaim := { program := "ytgdkcnpgnmmliab", sum := "7af09550e0f7aa9a254a9c8c3edb37223d0d072e43a502251131153479bcca34", func := "tailrace/tailracelaw10.MemFroms", spec := "memFroms", inPlace := ["slices.overlaps[tailrace/key.Entry]"], unfollowed := true, recurses := true, apart := false }
def MemFromsSaid : Prop := memFromsRow.holds Try.pinned (OpenSpec.ofChange memFromsSpec)

/-- ITS FALSE NEIGHBOUR: 'it returns false'. Refute it at one input. -/
def memFromsWrong : ChangeSpec := { name := "memFroms", fn := fun _ => fun
  | [d1, d2] => { results := [.lit (.bool false)], args := [d1, d2] }
  | _ => none }
def MemFromsWrongFalsely : Prop := memFromsRow.holds Try.pinned (OpenSpec.ofChange memFromsWrong)

/-- 'tailracelaw10.MemOrder': WHATEVER THE INPUT: true; the input reads as it did. -/
def memOrderSpec : ChangeSpec := { name := "memOrder", fn := fun _ => fun
  | [d1, d2, d3] => { results := [.lit (.bool true)], args := [d1, d2, d3] }
  | _ => none }
def memOrderRow : OpenClaim := { program := "ytgdkcnpgnmmliab", sum := "7af09550e0f7aa9a254a9c8c3edb37223d0d072e43a502251131153479bcca34", func := "tailrace/tailracelaw10.MemOrder", spec := "memOrder", inPlace := ["slices.overlaps[tailrace/key.Entry]"], unfollowed := true, recurses := true, apart := false }
def MemOrderSaid : Prop := memOrderRow.holds Try.pinned (OpenSpec.ofChange memOrderSpec)

/-- ITS FALSE NEIGHBOUR: 'it returns false'. Refute it at one input. -/
def memOrderWrong : ChangeSpec := { name := "memOrder", fn := fun _ => fun
  | [d1, d2, d3] => { results := [.lit (.bool false)], args := [d1, d2, d3] }
  | _ => none }
def MemOrderWrongFalsely : Prop := memOrderRow.holds Try.pinned (OpenSpec.ofChange memOrderWrong)

/- THE SECOND FORM. 'bulk': how many values and letters a reading holds, each counted each time it is reached (what is shared counts as often as it is met; a slice's spare places count too). A statement '..UptoSaid' is the law's where the arguments, and the package variables that the reading takes, are together of bulk at most 1048576: NARROWER than '..Said'. Prove '..Said' where nothing that the law and all that it calls make is longer than what came in: it says more and counts as full. Else prove '..UptoSaid'. A law counts once. -/
mutual
def uptoBulk {H : Type} : DataW H → Nat
  | .lit (.string bytes) => bytes.length + 1
  | .lit _ => 1
  | .nil => 1
  | .ptr d => uptoBulk d + 1
  | .slice elems spare => uptoBulkAll elems + uptoBulkAll spare + 1
  | .agg parts => uptoBulkAll parts + 1
  | .iface _ d => uptoBulk d + 1
  | .map entries => uptoBulkEntries entries + 1
  | .held _ => 1
def uptoBulkAll {H : Type} : List (DataW H) → Nat
  | [] => 0
  | d :: r => uptoBulk d + uptoBulkAll r
def uptoBulkEntries {H : Type} : List (Lit × DataW H) → Nat
  | [] => 0
  | x :: r => uptoBulkEntry x + uptoBulkEntries r
def uptoBulkEntry {H : Type} : Lit × DataW H → Nat
  | (.string bytes, d) => bytes.length + uptoBulk d + 1
  | (_, d) => uptoBulk d + 1
 end
def uptoSmall : (H : Type) → List (DataW H) → Bool := fun _ ds => decide (uptoBulkAll ds ≤ 1048576)
def OpenSpec.upto (s : _root_.Go.ChangeSpec) : _root_.Go.OpenSpec := { _root_.Go.OpenSpec.ofChange s with cond := some uptoSmall }

/-- 'tailracelaw10.MemSorts', WHERE WHAT IT READS IS OF BULK AT MOST 1048576: true; the input reads as it did. -/
def memSortsUptoRow : OpenClaim := { program := "ytgdkcnpgnmmliab", sum := "7af09550e0f7aa9a254a9c8c3edb37223d0d072e43a502251131153479bcca34", func := "tailrace/tailracelaw10.MemSorts", spec := "memSorts", inPlace := ["slices.overlaps[int]"], unfollowed := true, recurses := true, apart := false, narrowed := true }
def MemSortsUptoSaid : Prop := memSortsUptoRow.holds Try.pinned (OpenSpec.upto memSortsSpec)

/-- 'tailracelaw10.MemAdds', WHERE WHAT IT READS IS OF BULK AT MOST 1048576: true; the input reads as it did. -/
def memAddsUptoRow : OpenClaim := { program := "ytgdkcnpgnmmliab", sum := "7af09550e0f7aa9a254a9c8c3edb37223d0d072e43a502251131153479bcca34", func := "tailrace/tailracelaw10.MemAdds", spec := "memAdds", inPlace := ["slices.overlaps[tailrace/key.Entry]"], unfollowed := true, recurses := true, apart := false, narrowed := true }
def MemAddsUptoSaid : Prop := memAddsUptoRow.holds Try.pinned (OpenSpec.upto memAddsSpec)

/-- 'tailracelaw10.MemGets', WHERE WHAT IT READS IS OF BULK AT MOST 1048576: true; the input reads as it did. -/
def memGetsUptoRow : OpenClaim := { program := "ytgdkcnpgnmmliab", sum := "7af09550e0f7aa9a254a9c8c3edb37223d0d072e43a502251131153479bcca34", func := "tailrace/tailracelaw10.MemGets", spec := "memGets", inPlace := ["slices.overlaps[tailrace/key.Entry]"], unfollowed := true, recurses := true, apart := false, narrowed := true }
def MemGetsUptoSaid : Prop := memGetsUptoRow.holds Try.pinned (OpenSpec.upto memGetsSpec)

/-- 'tailracelaw10.MemFroms', WHERE WHAT IT READS IS OF BULK AT MOST 1048576: true; the input reads as it did. -/
def memFromsUptoRow : OpenClaim := { program := "ytgdkcnpgnmmliab", sum := "7af09550e0f7aa9a254a9c8c3edb37223d0d072e43a502251131153479bcca34", func := "tailrace/tailracelaw10.MemFroms", spec := "memFroms", inPlace := ["slices.overlaps[tailrace/key.Entry]"], unfollowed := true, recurses := true, apart := false, narrowed := true }
def MemFromsUptoSaid : Prop := memFromsUptoRow.holds Try.pinned (OpenSpec.upto memFromsSpec)

/-- 'tailracelaw10.MemOrder', WHERE WHAT IT READS IS OF BULK AT MOST 1048576: true; the input reads as it did. -/
def memOrderUptoRow : OpenClaim := { program := "ytgdkcnpgnmmliab", sum := "7af09550e0f7aa9a254a9c8c3edb37223d0d072e43a502251131153479bcca34", func := "tailrace/tailracelaw10.MemOrder", spec := "memOrder", inPlace := ["slices.overlaps[tailrace/key.Entry]"], unfollowed := true, recurses := true, apart := false, narrowed := true }
def MemOrderUptoSaid : Prop := memOrderUptoRow.holds Try.pinned (OpenSpec.upto memOrderSpec)

end Rows
end Go.Proofs.Ytgdkcnpgnmmliab
