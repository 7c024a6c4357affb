/- BlockBranches answers true for every list of digests and every place, with no condition but that they can be read as data. -/
import Derived.Test.YtkokbpifjpmhlaaDoorRows
import Derived.Test.YtkokbpifjpmhlaaDoorTie
import Derived.Test.YtkokbpifjpmhlaaDoorCards
import Derived.Test.YtkokbpifjpmhlaaDoorLaid
import Derived.Test.YtkokbpifjpmhlaaDoorBuf
import Derived.Test.YtkokbpifjpmhlaaDoorStr
import Derived.Test.YtkokbpifjpmhlaaDoorOpw
import Derived.Test.YtkokbpifjpmhlaaDoorArr
import Derived.Test.YtkokbpifjpmhlaaDoorArrIn
import Derived.Test.YtkokbpifjpmhlaaDoorD1
import Derived.Test.YtkokbpifjpmhlaaDoorD2
import Derived.Test.YtkokbpifjpmhlaaDoorD3
import Derived.Test.YtkokbpifjpmhlaaDoorD4
import Derived.Test.YtkokbpifjpmhlaaDoorD5
import Derived.Test.YtkokbpifjpmhlaaDoorD6
import Derived.Test.YtkokbpifjpmhlaaDoorD7
import Derived.Test.YtkokbpifjpmhlaaDoorD8
import Derived.Test.YtkokbpifjpmhlaaDoorD9
import Derived.Test.YtkokbpifjpmhlaaDoorRowN
import Derived.Test.YtkokbpifjpmhlaaDoorOpenG
import Derived.Test.YtkokbpifjpmhlaaDoorB1
import Derived.Test.YtkokbpifjpmhlaaDoorHIn
import Derived.Test.YtkokbpifjpmhlaaDoorB2
import Derived.Test.YtkokbpifjpmhlaaDoorB3
import Derived.Test.YtkokbpifjpmhlaaDoorB4
import Derived.Test.YtkokbpifjpmhlaaDoorB5
import Derived.Test.YtkokbpifjpmhlaaDoorRM
import Derived.Test.YtkokbpifjpmhlaaDoorR1
import Derived.Test.YtkokbpifjpmhlaaDoorR2
import Derived.Test.YtkokbpifjpmhlaaDoorR3
import Derived.Test.YtkokbpifjpmhlaaDoorR4
import Derived.Test.YtkokbpifjpmhlaaDoorR5
import Derived.Test.YtkokbpifjpmhlaaDoorRL
import Derived.Test.YtkokbpifjpmhlaaDoorKeep
import Derived.Test.YtkokbpifjpmhlaaDoorRL4
import Derived.Test.YtkokbpifjpmhlaaDoorRL5
import Derived.Test.YtkokbpifjpmhlaaDoorRL6
import Derived.Test.YtkokbpifjpmhlaaDoorRL7
import Derived.Test.YtkokbpifjpmhlaaDoorRL3
import Derived.Test.YtkokbpifjpmhlaaDoorR6
import Derived.Test.YtkokbpifjpmhlaaDoorRefA
import Derived.Test.YtkokbpifjpmhlaaDoorQ1
import Derived.Test.YtkokbpifjpmhlaaDoorQ2
import Derived.Test.YtkokbpifjpmhlaaDoorArm
import Derived.Test.YtkokbpifjpmhlaaDoorQ3
import Derived.Test.YtkokbpifjpmhlaaDoorQ4
import Derived.Test.YtkokbpifjpmhlaaDoorP1
import Derived.Test.YtkokbpifjpmhlaaDoorP2
import Derived.Test.YtkokbpifjpmhlaaDoorP3
import Derived.Test.YtkokbpifjpmhlaaDoorBrW
import Derived.WalkKit
import Derived.ProofKit
import Derived.OpenShut
import Derived.ShutString
import Derived.ChangeOld
import Derived.Below
namespace Go.Proofs.YtkokbpifjpmhlaaDoor.blockBranches
open Go.ChangeShapes Go.WideShapes Go.ChangeAt Go.RowKit
open Go.ChangeMaps (open_string shut_string)
set_option linter.unusedVariables false
set_option linter.unusedSimpArgs false

theorem own : ownKnob Tryd.prog.godebug = none := by kernel_rfl
theorem laidOut : laidOutB Tryd.prog = true := by kernel_rfl

def IsRow (k : IntKind) (w : World) (a : Option Addr) (len cap : Nat) (zs : List Int) : Prop :=
  (a = none ∧ len = 0 ∧ cap = 0 ∧ zs = []) ∨
  ∃ x, a = some x ∧ len ≤ cap ∧ cap ≤ maxLen ∧ zs.length = cap ∧ (∀ i, i < zs.length → w.cell? (x.add i) = some (.int k (zs.getD i 0))) ∧ ∀ n ∈ zs, (Lit.int k n).wf = true

set_option maxRecDepth 100000 in
theorem lifted (os : Os) (started : os.Started) (H : Type) (enc : TypeId × Value → H) :
    ReturnsInHanded {} Tryd.checked os 4 .any (fun w args => (Rows.blockBranchesSpec.pre enc Tryd.prog Tryd.f4 [] false w args ∧ laidMetH Tryd.prog Rows.blockBranchesRow.laid w) ∧ sizedMet enc Tryd.prog Tryd.f4 (OpenSpec.ofChange Rows.blockBranchesSpec) false w args) (Rows.blockBranchesSpec.post enc Tryd.prog Tryd.f4 false true false false) := by
  refine returnsInHanded_of_change_and (C := Tryd.checked) (X := fun w _ => laidMetH Tryd.prog Rows.blockBranchesRow.laid w) (fun _ _ _ hh h => h.of_heap hh) own started (by kernel_rfl) Tryd.func4
    (ChangeSpec.witness_shaped (enc := enc) (C := Tryd.checked) (os := os) (X := fun w _ => laidMetH Tryd.prog Rows.blockBranchesRow.laid w) false (World.doorLaid Tryd.prog 400 os) #[.slice none 0 0, .int .i64 0] 8 rfl (World.shaped_of_RefB (by kernel_rfl) (by kernel_rfl)) (by kernel_rfl) (by kernel_rfl) (by kernel_rfl) (door_met os _)) ?_
  intro W base args ds gs before hval0 hW _ _ hL _
  have ht : TabAt W := tab_of_laid hL
  have hval : ∀ (j : Nat) t v, Tryd.f4.params[j]? = some t → args[j]? = some v → Value.okWide Tryd.prog W .any base t v := hval0
  have hW' := hW
  obtain ⟨p, q, hA0, hV, rfl, hfz, hnd⟩ := hW
  have hA : DataW.TrodAll enc Tryd.prog W 0 (fun _ => true) true Tryd.f4.params.toList args.toList ds p := hA0
  rw [Tryd.params4] at hA hval
  obtain ⟨v0, vs0, d0, ds0, p0, q0, hargs, rfl, rfl, h0, r0⟩ := trodAll_cons hA
  obtain ⟨v1, vs1, d1, ds1, p1, q1, rfl, rfl, rfl, h1, r1⟩ := trodAll_cons r0
  obtain ⟨rfl, rfl, rfl⟩ := trodAll_nil r1
  obtain rfl : args = #[v0, v1] := by cases args; simp_all
  obtain ⟨rfl, rfl⟩ := trodVars_none hV
  have k0 := h0
  have lt0 : ∀ x ∈ p0, x.block < W.heap.size := by obtain ⟨m, hm⟩ := k0; exact DataW.trod_lt m _ _ _ hm
  obtain ⟨a0, len0, cap0, hs0, rfl, w0, c0, m0⟩ := open_hashes (hval 0 39 v0 rfl rfl) h0
  have k1 := h1
  have lt1 : ∀ x ∈ p1, x.block < W.heap.size := by obtain ⟨m, hm⟩ := k1; exact DataW.trod_lt m _ _ _ hm
  obtain ⟨a1, rfl, _, _, w1⟩ := open_int Tryd.underlying3 (hval 1 3 v1 rfl rfl) h1
  clear hA0 hval0
  have hwalk : Calls Tryd.prog 4 #[.slice a0 len0 cap0, .int .i64 a1] W fun e w' => e = .returned (.bool true) ∧ Below W.heap.size W w' := by
    by_cases h : (12 : Int) < len0
    · exact branches_long a0 len0 cap0 a1 W ht h
    · exact branches_walk a0 len0 cap0 a1 hs0 W w0 ht (by omega)
  refine hwalk.mono fun e W' ⟨he, bel⟩ => ?_
  subst he
  exact ⟨_, rfl, _, _, _, [], _, [], hW', trodAll_mk1 (shut_bool Tryd.underlying4 _), (trodAll_cons_mk (Below.trod laidOut (by kernel_rfl) (of_decide_eq_true (by kernel_rfl)) k0 bel lt0) (trodAll_cons_mk (Below.trod laidOut (by kernel_rfl) (of_decide_eq_true (by kernel_rfl)) k1 bel lt1) trodAll_mk0)), rfl, bel.frame _, fun h => by cases h⟩

theorem over : Rows.blockBranchesRow.holds Tryd.pinned (OpenSpec.ofChange Rows.blockBranchesSpec) :=
  OpenClaim.holds_of_wide 4 Tryd.f4 rfl rfl rfl rfl rfl rfl rfl ⟨rfl, rfl, rfl, rfl, rfl⟩ rfl rfl rfl rfl rfl (by kernel_rfl) Tryd.func4 (by kernel_rfl)
    (of_decide_eq_true (by kernel_rfl)) (by unfold Func.isWrapper; first | (rw [if_pos (by decide +kernel)]; kernel_rfl) | (rw [if_neg (by decide +kernel)]; exact ⟨rfl, rfl⟩))
    (fun os started H enc _ => lifted os started H enc)

theorem row_holds : Rows.BlockBranchesSaid := over

theorem proved : Rows.BlockBranchesCardSaid :=
  Claim7.holds_tied_plain_at .later [] [.data] true (true, "da9469f89faca3556aacb4a38d6e311ab47fc0aaad709862effdec5a9a1f41d1") false
    row_holds (fun _ h => by cases h) (by kernel_rfl) (fun _ h => by cases h) blockBranches_row_tie rfl ⟨rfl, rfl⟩ (by kernel_rfl) rfl
    (fun f fn hf hfn => by
      obtain rfl : f = 4 := Option.some.inj ((show Tryd.prog.funcNamed Tryd.f4.name = some 4 by kernel_rfl).symm.trans hf) |>.symm
      obtain rfl : fn = Tryd.f4 := (Option.some.inj (Tryd.func4.symm.trans hfn)).symm
      exact ⟨by kernel_rfl, fun j t ht => by
        rw [Tryd.params4] at ht
        have hm : t ∈ [39, 3] := by have := Array.mem_of_getElem? ht; simp at this; simp [this]
        have hall : ([39, 3].all fun u => !Tryd.prog.wantsStandIn u) = true := by kernel_rfl
        exact (show Tryd.prog.wantsStandIn t = false by simpa using List.all_eq_true.1 hall t hm)⟩)
    (by kernel_rfl)
#print axioms proved
end Go.Proofs.YtkokbpifjpmhlaaDoor.blockBranches
