/- What the laid condition gives: the sixty-four cells of the table. -/
import Derived.Test.YtdppnicbpdjanaaDoorRows
import Derived.WalkKit
import Derived.ProofKit
import Derived.LaidMore
import Derived.OpenShut
import Derived.Stop.Joined
import Derived.Lib.LaidTab
namespace Go.Proofs.YtdppnicbpdjanaaDoor
set_option linter.unusedSimpArgs false
set_option linter.unusedVariables false
open Go.ChangeShapes Go.WideShapes Go.ChangeAt Go.RowKit

def K0 : List Int := [1116352408, 1899447441, 3049323471, 3921009573, 961987163, 1508970993, 2453635748, 2870763221, 3624381080, 310598401, 607225278, 1426881987, 1925078388, 2162078206, 2614888103, 3248222580, 3835390401, 4022224774, 264347078, 604807628, 770255983, 1249150122, 1555081692, 1996064986, 2554220882, 2821834349, 2952996808, 3210313671, 3336571891, 3584528711, 113926993, 338241895, 666307205, 773529912, 1294757372, 1396182291, 1695183700, 1986661051, 2177026350, 2456956037, 2730485921, 2820302411, 3259730800, 3345764771, 3516065817, 3600352804, 4094571909, 275423344, 430227734, 506948616, 659060556, 883997877, 958139571, 1322822218, 1537002063, 1747873779, 1955562222, 2024104815, 2227730452, 2361852424, 2428436474, 2756734187, 3204031479, 3329325298]

/-- The table's cells. -/
def TabAt (w : World) : Prop := 0 < w.heap.size ∧ ∀ j, j < 64 → w.cell? ⟨0, j, none⟩ = some (.int .u32 (K0.getD j 0))

theorem TabAt.below {w w' : World} {B : Nat} (h : TabAt w) (hb : Below B w w') (hB : 0 < B) : TabAt w' :=
  ⟨Nat.lt_of_lt_of_le h.1 hb.size, fun j hj => by rw [hb.cell (p := ⟨0, j, none⟩) hB]; exact h.2 j hj⟩

theorem gTab : Tryd.prog.globalNamed (Rows.txIdsRow.laid.headD (String.ofList [], .nil)).1 = some 0 := by kernel_rfl
theorem tTab : (Tryd.prog.globals[0]?).map (·.type) = some 89 := by kernel_rfl
theorem c27 : Tryd.prog.cellsOf 24 = 1 := by kernel_rfl
theorem c29 : Tryd.prog.cellsOf 89 = 64 := by kernel_rfl
theorem datum : (Rows.laid_tailrace_sha_cubes : DataW Unit) = Lib.tabData .u32 K0 := rfl

theorem tab_of_laid {W : World} (h : laidMetH Tryd.prog Rows.txIdsRow.laid W) : TabAt W := by
  rw [MakeChecks.laidMetH_plain _ _ _ (by kernel_rfl)] at h
  obtain ⟨ps, ⟨g0, t0, cs0, f0, p0, q0, hg0, ht0, hv0, hd0, _, _⟩, _, _⟩ := h
  obtain rfl := Option.some.inj (gTab.symm.trans hg0)
  obtain rfl := Option.some.inj (tTab.symm.trans ht0)
  have hcell := fun j => World.var?_cell hg0 hv0 j
  rw [datum] at hd0
  have hcs := Lib.cells_of_tab Tryd.underlying89 Tryd.underlying24 c27 c29 hd0
  have hj : ∀ j, j < 64 → W.cell? ⟨0, j, none⟩ = some (.int .u32 (K0.getD j 0)) := by
    intro j hj
    have hl : j < K0.length := hj
    rw [hcell j, ← Array.getElem?_toList, hcs]
    simp [List.getD, hl]
  exact ⟨World.block_lt_of_cell? _ _ (hj 0 (by decide)), hj⟩

/-- The heap that the door's own run leaves meets the condition. -/
theorem door_met (os : Os) (args : Array Value) : laidMetH Tryd.prog Rows.txIdsRow.laid ((World.doorLaid Tryd.prog 400 os).forCall (fun _ _ => 0) ⟨#[], args, []⟩).memory :=
  laidMetH_of_parts3 (fuel := 8) (laidMet_of_run' 8 (by kernel_rfl) (by kernel_rfl)) (by kernel_rfl) (by kernel_rfl)

end Go.Proofs.YtdppnicbpdjanaaDoor
