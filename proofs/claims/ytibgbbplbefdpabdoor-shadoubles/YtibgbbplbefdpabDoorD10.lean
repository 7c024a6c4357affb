/- The law's head. -/
import Derived.Test.YtibgbbplbefdpabDoorD9
import Derived.Deep.DeepCutAuto
import Derived.Lib.SlBytesConst
namespace Go.Proofs.YtibgbbplbefdpabDoor
set_option linter.unusedSimpArgs false
set_option linter.unusedVariables false
open Go.RowKit

theorem abc : (dg [97, 98, 99]).take 4 = [186, 120, 22, 191] := by decide +kernel
theorem abc_at (i : Nat) (hi : i < 4) : (bys (dg [97, 98, 99]))[i]? = some (.int .u8 (([186, 120, 22, 191].getD i 0 : Nat) : Int)) := by
  have hl : i < (dg [97, 98, 99]).length := by rw [dg_len]; omega
  rw [bys_get _ _ hl, ← abc]
  simp [List.getD, hi]

theorem rd_marked (w : World) (l : List Value) (e : TypeId) (fr : Nat × Nat) (n : Nat) (hn : l.length = n) : Rd (w.alloc (.cells l.toArray e fr)) (w.alloc (.cells l.toArray e fr)).heap.size (some ⟨w.heap.size, 0, none⟩) n l :=
  ⟨hn, fun _ => ⟨_, _, rfl, by simp, fun j u hu => by rw [Nat.zero_add, World.cell?_alloc_mark]; simpa using hu⟩⟩

set_option maxHeartbeats 1000000 in
set_option maxRecDepth 100000 in
theorem head_any (w : World) (ht : TabAt w) :
    Calls Tryd.prog 6 #[] w fun e w' => e = .returned (.bool true) ∧ Below w.heap.size w w' := by
  have HT := Lib.hid ht
  clear ht
  have kc := fun (w : World) (C : Array Value) (n c : Nat) => Lib.run_convert_bytes_const (P := Tryd.prog) w 22 5 C n c Tryd.underlying22 Tryd.underlying5
  have hb0 : Below w.heap.size w (w.alloc (.cells (bys [97, 98, 99]).toArray 5 (3, 4))) := (Below.refl _ _).alloc (Nat.le_refl _) _
  have r0 := rd_marked w (bys [97, 98, 99]) 5 (3, 4) 3 rfl
  have HC := Lib.hid (sum_any _ 3 3 [97, 98, 99] _ r0 (by decide) (by omega) (by omega) (by unfold maxLen; omega) (HT.out.below hb0 HT.out.1))
  have HA := Lib.hid abc_at
  have hdn := dg_len [97, 98, 99]
  generalize dg [97, 98, 99] = D at *
  have hsz : (bys D).length = 32 := by rw [bys_len]; exact hdn
  have HSZ := Lib.hid hsz
  clear r0 hdn hsz
  go_enter Tryd.func6, Tryd.ntmps6
  go_wp2_with fail
  refine HC.out.mono ?_
  rintro e w1 ⟨rfl, hb1⟩
  have h1s := hb1.size
  simp only [World.size_alloc] at h1s
  have hB1 := hb0.trans (hb1.mono (by simp))
  clear hb0 hb1
  have HTN := Lib.hid (there_new w1 ZH 25 (bys D).toArray.size (by rw [ZH_size]; exact HSZ.out.symm))
  have bk2 : Blk ((w1.alloc (.cells ZH 25)).setCells w1.heap.size 0 (bys D)) w1.heap.size 25 (bys D).toArray := (Blk.new w1 25 ZH).stored (bys D) (by rw [ZH_size]; exact HSZ.out)
  have q0 := bk2.cell 0 _ (HA.out 0 (by omega))
  have q1 := bk2.cell 1 _ (HA.out 1 (by omega))
  have q2 := bk2.cell 2 _ (HA.out 2 (by omega))
  have q3 := bk2.cell 3 _ (HA.out 3 (by omega))
  have hB2 : Below w.heap.size w ((w1.alloc (.cells ZH 25)).setCells w1.heap.size 0 (bys D)) := Below.setCells' (hB1.alloc (by omega) _) _ _ (by omega) _
  simp only [List.getD_cons_zero, List.getD_cons_succ] at q0 q1 q2 q3
  clear bk2 hB1
  go_upto_region 2 with (first
    | (refine wpList_of_wp rfl fun K hK => wp_alloc_arr 25 rfl ZH Tryd.zero25 (hK _ _ ?_))
    | (refine wpList_store_mid rfl 25 (.tmp 1) (.tmp 4) rfl w1.heap.size 0 (bys D).toArray rfl rfl HTN.out (by rw [show (bys D).toArray.size = 32 from HSZ.out]; exact Tryd.size25) (all_oneCell_toArray (bys_one _)) ?_))
  change Code.wp _ _ _ _ ((w1.alloc (.cells ZH 25)).setCells w1.heap.size 0 (bys D))
  generalize (w1.alloc (.cells ZH 25)).setCells w1.heap.size 0 (bys D) = W2 at *
  go_wp2_with fail
  go_ret
  exact ⟨rfl, hB2⟩
end Go.Proofs.YtibgbbplbefdpabDoor
