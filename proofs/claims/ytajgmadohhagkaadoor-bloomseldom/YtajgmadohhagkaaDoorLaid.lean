/- What the laid condition gives: the sixteen cells of the table. -/
import Derived.Test.YtajgmadohhagkaaDoorRows
import Derived.WalkKit
import Derived.ProofKit
import Derived.LaidMore
import Derived.OpenShut
import Derived.Stop.Joined
import Derived.Lib.LaidTab
namespace Go.Proofs.YtajgmadohhagkaaDoor
set_option linter.unusedSimpArgs false
set_option linter.unusedVariables false
open Go.ChangeShapes Go.WideShapes Go.ChangeAt Go.RowKit

def tabN : List Nat := [0, 274646895, 549293790, 820201905, 1098587580, 1361435347, 1640403810, 1905808397, 2197175160, 2460548119, 2722870694, 2987750089, 3280807620, 3553878443, 3811616794, 4084100981]

/-- The table's cells. -/
def TabAt (w : World) : Prop := 0 < w.heap.size ∧ ∀ j, j < 16 → w.cell? ⟨0, j, none⟩ = some (.int .u32 ((tabN.getD j 0 : Nat) : Int))

theorem TabAt.below {w w' : World} {B : Nat} (h : TabAt w) (hb : Below B w w') (hB : 0 < B) : TabAt w' :=
  ⟨Nat.lt_of_lt_of_le h.1 hb.size, fun j hj => by rw [hb.cell (p := ⟨0, j, none⟩) hB]; exact h.2 j hj⟩

theorem gTab : Tryd.prog.globalNamed (Rows.bloomMakesRow.laid.headD (String.ofList [], .nil)).1 = some 0 := by kernel_rfl
theorem tTab : (Tryd.prog.globals[0]?).map (·.type) = some 73 := by kernel_rfl
theorem c32 : Tryd.prog.cellsOf 46 = 1 := by kernel_rfl
theorem c52 : Tryd.prog.cellsOf 73 = 16 := by kernel_rfl
theorem datum : (Rows.laid_tailrace_crc_nibbles : DataW Unit) = Lib.tabData .u32 (tabN.map fun (n : Nat) => (n : Int)) := rfl

theorem tab_of_laid {W : World} (h : laidMetH Tryd.prog Rows.bloomMakesRow.laid W) : TabAt W := by
  rw [MakeChecks.laidMetH_plain _ _ _ (by kernel_rfl)] at h
  obtain ⟨ps, ⟨g0, t0, cs0, f0, p0, q0, hg0, ht0, hv0, hd0, _, _⟩, _, _⟩ := h
  obtain rfl := Option.some.inj (gTab.symm.trans hg0)
  obtain rfl := Option.some.inj (tTab.symm.trans ht0)
  have hcell := fun j => World.var?_cell hg0 hv0 j
  rw [datum] at hd0
  have hcs := Lib.cells_of_tab Tryd.underlying73 Tryd.underlying46 c32 c52 hd0
  have hj : ∀ j, j < 16 → W.cell? ⟨0, j, none⟩ = some (.int .u32 ((tabN.getD j 0 : Nat) : Int)) := by
    intro j hj
    have hl : j < tabN.length := hj
    rw [hcell j, ← Array.getElem?_toList, hcs]
    simp [List.getD, hl]
  exact ⟨World.block_lt_of_cell? _ _ (hj 0 (by decide)), hj⟩

/-- The heap that the door's own run leaves meets the condition. -/
theorem door_met (os : Os) (args : Array Value) : laidMetH Tryd.prog Rows.bloomMakesRow.laid ((World.doorLaid Tryd.prog 400 os).forCall (fun _ _ => 0) ⟨#[], args, []⟩).memory :=
  laidMetH_of_parts3 (fuel := 8) (laidMet_of_run' 8 (by kernel_rfl) (by kernel_rfl)) (by kernel_rfl) (by kernel_rfl)

end Go.Proofs.YtajgmadohhagkaaDoor
