/- ShaEdges returns true for every byte and every length: the digest of a run of one byte is the document's; no condition. -/
import Derived.Test.YtibgbbplbefdpabDoorRows
import Derived.Test.YtibgbbplbefdpabDoorTie
import Derived.Test.YtibgbbplbefdpabDoorCards
import Derived.Test.YtibgbbplbefdpabDoorLaid
import Derived.Test.YtibgbbplbefdpabDoorBuf
import Derived.Test.YtibgbbplbefdpabDoorStr
import Derived.Test.YtibgbbplbefdpabDoorOpw
import Derived.Test.YtibgbbplbefdpabDoorArr
import Derived.Test.YtibgbbplbefdpabDoorArrIn
import Derived.Test.YtibgbbplbefdpabDoorD1
import Derived.Test.YtibgbbplbefdpabDoorD2
import Derived.Test.YtibgbbplbefdpabDoorD3
import Derived.Test.YtibgbbplbefdpabDoorD4
import Derived.Test.YtibgbbplbefdpabDoorD5
import Derived.Test.YtibgbbplbefdpabDoorD6
import Derived.Test.YtibgbbplbefdpabDoorD7
import Derived.Test.YtibgbbplbefdpabDoorD8
import Derived.Test.YtibgbbplbefdpabDoorD9
import Derived.Test.YtibgbbplbefdpabDoorD10
import Derived.Test.YtibgbbplbefdpabDoorRM
import Derived.Test.YtibgbbplbefdpabDoorR1
import Derived.Test.YtibgbbplbefdpabDoorR2
import Derived.Test.YtibgbbplbefdpabDoorR3
import Derived.Test.YtibgbbplbefdpabDoorR4
import Derived.Test.YtibgbbplbefdpabDoorR5
import Derived.Test.YtibgbbplbefdpabDoorRL
import Derived.Test.YtibgbbplbefdpabDoorKeep
import Derived.Test.YtibgbbplbefdpabDoorRL4
import Derived.Test.YtibgbbplbefdpabDoorRL5
import Derived.Test.YtibgbbplbefdpabDoorRL6
import Derived.Test.YtibgbbplbefdpabDoorRL7
import Derived.Test.YtibgbbplbefdpabDoorRL3
import Derived.Test.YtibgbbplbefdpabDoorR6
import Derived.Test.YtibgbbplbefdpabDoorSumsW
import Derived.WalkKit
import Derived.ProofKit
import Derived.OpenShut
import Derived.Below
import Derived.ChangeOld
import Derived.ShutString
namespace Go.Proofs.YtibgbbplbefdpabDoor.shaEdges
open Go.ChangeShapes Go.WideShapes Go.ChangeAt Go.RowKit
open Go.ChangeMaps (open_string shut_string)
set_option linter.unusedVariables false
set_option linter.unusedSimpArgs false    
theorem own : ownKnob Tryd.prog.godebug = none := by kernel_rfl

theorem walk (a0 : Int) (a1 : Int) (w0 : (Lit.int .u8 a0).wf = true) (w1 : (Lit.int .i64 a1).wf = true) (w : World) (ht : TabAt w) :
    Calls Tryd.prog 5 #[.int .u8 a0, .int .i64 a1] w fun e w' => e = .returned (.bool true) ∧ Below w.heap.size w w' := by
  have h0 : 0 ≤ a0 ∧ a0 ≤ 255 := by simpa [Lit.wf, IntKind.min, IntKind.max, IntKind.signed, IntKind.bits] using w0
  obtain ⟨C, rfl⟩ := Int.eq_ofNat_of_zero_le h0.1
  exact edges_walk C (by omega) a1 w ht
set_option maxRecDepth 100000 in
theorem lifted (os : Os) (started : os.Started) (H : Type) (enc : TypeId × Value → H) :
    ReturnsInHanded {} Tryd.checked os 5 .any (fun w args => (Rows.shaEdgesSpec.pre enc Tryd.prog Tryd.f5 [] false w args ∧ laidMetH Tryd.prog Rows.shaEdgesRow.laid w) ∧ sizedMet enc Tryd.prog Tryd.f5 (OpenSpec.ofChange Rows.shaEdgesSpec) false w args) (Rows.shaEdgesSpec.post enc Tryd.prog Tryd.f5 false true false false) := by
  refine returnsInHanded_of_change_and (C := Tryd.checked) (X := fun w _ => laidMetH Tryd.prog Rows.shaEdgesRow.laid w) (fun _ _ _ hh h => h.of_heap hh) own started (by kernel_rfl) Tryd.func5
    (ChangeSpec.witness_shaped (enc := enc) (C := Tryd.checked) (os := os) (X := fun w _ => laidMetH Tryd.prog Rows.shaEdgesRow.laid w) false (World.doorLaid Tryd.prog 400 os) #[.int .u8 0, .int .i64 0] 8 rfl (World.shaped_of_RefB (by kernel_rfl) (by kernel_rfl)) (by kernel_rfl) (by kernel_rfl) (by kernel_rfl) (door_met os _)) ?_
  intro W base args ds gs before hval0 hW _ _ hL _
  have ht : TabAt W := tab_of_laid hL
  have hval : ∀ (j : Nat) t v, Tryd.f5.params[j]? = some t → args[j]? = some v → Value.okWide Tryd.prog W .any base t v := hval0
  have hW' := hW
  obtain ⟨p, q, hA0, hV, rfl, hfz, hnd⟩ := hW
  have hA : DataW.TrodAll enc Tryd.prog W 0 (fun _ => true) true Tryd.f5.params.toList args.toList ds p := hA0
  rw [Tryd.params5] at hA hval
  obtain ⟨v0, vs0, d0, ds0, p0, q0, hargs, rfl, rfl, h0, r0⟩ := trodAll_cons hA
  obtain ⟨v1, vs1, d1, ds1, p1, q1, rfl, rfl, rfl, h1, r1⟩ := trodAll_cons r0
  obtain ⟨rfl, rfl, rfl⟩ := trodAll_nil r1
  obtain rfl : args = #[v0, v1] := by cases args; simp_all
  obtain ⟨rfl, rfl⟩ := trodVars_none hV
  obtain ⟨a0, rfl, rfl, rfl, w0⟩ := open_int Tryd.underlying5 (hval 0 5 v0 rfl rfl) h0
  obtain ⟨a1, rfl, rfl, rfl, w1⟩ := open_int Tryd.underlying3 (hval 1 3 v1 rfl rfl) h1
  clear hA0 hval0
  simp only [List.append_nil] at hW'
  refine (walk a0 a1 w0 w1 W ht).mono fun e W' ⟨he, bel⟩ => ?_
  subst he
  exact ⟨_, rfl, _, _, _, [], _, [], hW', (trodAll_cons_mk (shut_bool Tryd.underlying4 _) trodAll_mk0), (trodAll_cons_mk (shut_int Tryd.underlying5 w0) (trodAll_cons_mk (shut_int Tryd.underlying3 w1) trodAll_mk0)), rfl, bel.frame _, fun h => by cases h⟩

theorem over : Rows.shaEdgesRow.holds Tryd.pinned (OpenSpec.ofChange Rows.shaEdgesSpec) :=
  OpenClaim.holds_of_wide 5 Tryd.f5 rfl rfl rfl rfl rfl rfl rfl ⟨rfl, rfl, rfl, rfl, rfl⟩ rfl rfl rfl rfl rfl (by kernel_rfl) Tryd.func5 (by kernel_rfl)
    (of_decide_eq_true (by kernel_rfl)) (by unfold Func.isWrapper; first | (rw [if_pos (by decide +kernel)]; kernel_rfl) | (rw [if_neg (by decide +kernel)]; exact ⟨rfl, rfl⟩))
    (fun os started H enc _ => lifted os started H enc)

theorem row_holds : Rows.ShaEdgesSaid := over

theorem proved : Rows.ShaEdgesCardSaid :=
  Claim7.holds_tied_plain_at .later [] [.data] true (true, "71618f20f2208b404525e44c41991a149b50bb2064f34af66aa6ef9fbd525a83") false
    row_holds (fun _ h => by cases h) (by kernel_rfl) (fun _ h => by cases h) shaEdges_row_tie rfl ⟨rfl, rfl⟩ (by kernel_rfl) rfl
    (fun f fn hf hfn => by
      obtain rfl : f = 5 := Option.some.inj ((show Tryd.prog.funcNamed Tryd.f5.name = some 5 by kernel_rfl).symm.trans hf) |>.symm
      obtain rfl : fn = Tryd.f5 := (Option.some.inj (Tryd.func5.symm.trans hfn)).symm
      exact ⟨by kernel_rfl, fun j t ht => by
        rw [Tryd.params5] at ht
        have hm : t ∈ [5, 3] := by have := Array.mem_of_getElem? ht; simp at this; simp [this]
        have hall : ([5, 3].all fun u => !Tryd.prog.wantsStandIn u) = true := by kernel_rfl
        exact (show Tryd.prog.wantsStandIn t = false by simpa using List.all_eq_true.1 hall t hm)⟩)
    (by kernel_rfl)
#print axioms proved
end Go.Proofs.YtibgbbplbefdpabDoor.shaEdges
