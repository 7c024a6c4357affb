/- The reference: its Sum; two digests held against each other. -/
import Derived.Test.YtkokbpifjpmhlaaDoorR6
namespace Go.Proofs.YtkokbpifjpmhlaaDoor
set_option linter.unusedSimpArgs false
set_option linter.unusedVariables false
open Go.RowKit

theorem ref_any (A : Option Addr) (n c : Nat) (bs : List Nat) (w : World) (hr : Rd w w.heap.size A n (bys bs)) (hb : ∀ c ∈ bs, c < 256) (hn : (n : Int) ≤ 100000000) :
    Calls Tryd.prog 39 #[.agg (us TAB).toArray, .slice A n c] w fun e w' => e = .returned (.agg (bys (dg bs)).toArray) ∧ Below w.heap.size w w' :=
  refsum_any A n c bs S0 K0 w hr hb hn rfl rfl S0_w K0_w
theorem Tryd.cells5 : Tryd.prog.cellsOf 5 = 1 := by kernel_rfl
theorem Tryd.cells23 : Tryd.prog.cellsOf 23 = 32 := by kernel_rfl
theorem Tryd.eqg23 : Tryd.prog.eqGuardType Tryd.prog.depth 23 = false := by kernel_rfl
theorem dg_eql {i0 : TypeInfo} (hi : Tryd.prog.info? 5 = some i0) (D : List Nat) (h : D.length = 32) (w : World) :
    (Op.equalIn 10000 23 (.agg (bys D).toArray) (.agg (bys D).toArray)).run Tryd.prog w = .ok true w := by
  have := run_eql_bys (P := Tryd.prog) w 23 5 32 .u8 i0 Tryd.underlying23 hi Tryd.cells5 Tryd.underlying5 D D h h
  simpa using this
end Go.Proofs.YtkokbpifjpmhlaaDoor
