/- BloomSeldom answers true for every number, and never panics: of the filter of twenty to fifty-one keys fewer than sixty of two hundred other texts may be there (reckoned for each of the thirty-two filters). -/
import Derived.Test.YtajgmadohhagkaaDoorRows
import Derived.Test.YtajgmadohhagkaaDoorTie
import Derived.Test.YtajgmadohhagkaaDoorCards
import Derived.Test.YtajgmadohhagkaaDoorLaid
import Derived.Test.YtajgmadohhagkaaDoorBuf
import Derived.Test.YtajgmadohhagkaaDoorStr
import Derived.Test.YtajgmadohhagkaaDoorOpw
import Derived.Test.YtajgmadohhagkaaDoorApp
import Derived.Test.YtajgmadohhagkaaDoorW1
import Derived.Test.YtajgmadohhagkaaDoorMsk
import Derived.Test.YtajgmadohhagkaaDoorN0
import Derived.Test.YtajgmadohhagkaaDoorConv
import Derived.Test.YtajgmadohhagkaaDoorBS
import Derived.Test.YtajgmadohhagkaaDoorBP
import Derived.Test.YtajgmadohhagkaaDoorC1
import Derived.Test.YtajgmadohhagkaaDoorC2
import Derived.Test.YtajgmadohhagkaaDoorC3
import Derived.Test.YtajgmadohhagkaaDoorAppS
import Derived.Test.YtajgmadohhagkaaDoorC4
import Derived.Test.YtajgmadohhagkaaDoorArr
import Derived.Test.YtajgmadohhagkaaDoorArrIn
import Derived.Test.YtajgmadohhagkaaDoorRowN
import Derived.Test.YtajgmadohhagkaaDoorOpenG
import Derived.Test.YtajgmadohhagkaaDoorC5
import Derived.Test.YtajgmadohhagkaaDoorC6
import Derived.Test.YtajgmadohhagkaaDoorD2
import Derived.Test.YtajgmadohhagkaaDoorShelf
import Derived.Test.YtajgmadohhagkaaDoorD3
import Derived.WalkKit
import Derived.ProofKit
import Derived.OpenShut
import Derived.ShutString
import Derived.ChangeOld
import Derived.Below
namespace Go.Proofs.YtajgmadohhagkaaDoor.bloomSeldom
open Go.ChangeShapes Go.WideShapes Go.ChangeAt Go.RowKit
open Go.ChangeMaps (open_string shut_string)
set_option linter.unusedVariables false
set_option linter.unusedSimpArgs false

theorem own : ownKnob Tryd.prog.godebug = none := by kernel_rfl
theorem laidOut : laidOutB Tryd.prog = true := by kernel_rfl

def IsRow (k : IntKind) (w : World) (a : Option Addr) (len cap : Nat) (zs : List Int) : Prop :=
  (a = none ∧ len = 0 ∧ cap = 0 ∧ zs = []) ∨
  ∃ x, a = some x ∧ len ≤ cap ∧ cap ≤ maxLen ∧ zs.length = cap ∧ (∀ i, i < zs.length → w.cell? (x.add i) = some (.int k (zs.getD i 0))) ∧ ∀ n ∈ zs, (Lit.int k n).wf = true

set_option maxRecDepth 100000 in
theorem lifted (os : Os) (started : os.Started) (H : Type) (enc : TypeId × Value → H) :
    ReturnsInHanded {} Tryd.checked os 6 .any (fun w args => (Rows.bloomSeldomSpec.pre enc Tryd.prog Tryd.f6 [] false w args ∧ laidMetH Tryd.prog Rows.bloomSeldomRow.laid w) ∧ sizedMet enc Tryd.prog Tryd.f6 (OpenSpec.ofChange Rows.bloomSeldomSpec) false w args) (Rows.bloomSeldomSpec.post enc Tryd.prog Tryd.f6 false true false false) := by
  refine returnsInHanded_of_change_and (C := Tryd.checked) (X := fun w _ => laidMetH Tryd.prog Rows.bloomSeldomRow.laid w) (fun _ _ _ hh h => h.of_heap hh) own started (by kernel_rfl) Tryd.func6
    (ChangeSpec.witness_shaped (enc := enc) (C := Tryd.checked) (os := os) (X := fun w _ => laidMetH Tryd.prog Rows.bloomSeldomRow.laid w) false (World.doorLaid Tryd.prog 400 os) #[.int .i64 0] 8 rfl (World.shaped_of_RefB (by kernel_rfl) (by kernel_rfl)) (by kernel_rfl) (by kernel_rfl) (by kernel_rfl) (door_met os _)) ?_
  intro W base args ds gs before hval0 hW _ _ hL _
  have ht : TabAt W := tab_of_laid hL
  have hval : ∀ (j : Nat) t v, Tryd.f6.params[j]? = some t → args[j]? = some v → Value.okWide Tryd.prog W .any base t v := hval0
  have hW' := hW
  obtain ⟨p, q, hA0, hV, rfl, hfz, hnd⟩ := hW
  have hA : DataW.TrodAll enc Tryd.prog W 0 (fun _ => true) true Tryd.f6.params.toList args.toList ds p := hA0
  rw [Tryd.params6] at hA hval
  obtain ⟨v0, vs0, d0, ds0, p0, q0, hargs, rfl, rfl, h0, r0⟩ := trodAll_cons hA
  obtain ⟨rfl, rfl, rfl⟩ := trodAll_nil r0
  obtain rfl : args = #[v0] := by cases args; simp_all
  obtain ⟨rfl, rfl⟩ := trodVars_none hV
  have k0 := h0
  have lt0 : ∀ x ∈ p0, x.block < W.heap.size := by obtain ⟨m, hm⟩ := k0; exact DataW.trod_lt m _ _ _ hm
  obtain ⟨a0, rfl, _, _, w0⟩ := open_int Tryd.underlying3 (hval 0 3 v0 rfl rfl) h0
  clear hA0 hval0
  have hwalk : Calls Tryd.prog 6 #[.int .i64 a0] W fun e w' => e = .returned (.bool true) ∧ Below W.heap.size W w' := by
    exact seldom_walk a0 W ht
  refine hwalk.mono fun e W' ⟨he, bel⟩ => ?_
  subst he
  exact ⟨_, rfl, _, _, _, [], _, [], hW', trodAll_mk1 (shut_bool Tryd.underlying4 _), (trodAll_cons_mk (Below.trod laidOut (by kernel_rfl) (of_decide_eq_true (by kernel_rfl)) k0 bel lt0) trodAll_mk0), rfl, bel.frame _, fun h => by cases h⟩

theorem over : Rows.bloomSeldomRow.holds Tryd.pinned (OpenSpec.ofChange Rows.bloomSeldomSpec) :=
  OpenClaim.holds_of_wide 6 Tryd.f6 rfl rfl rfl rfl rfl rfl rfl ⟨rfl, rfl, rfl, rfl, rfl⟩ rfl rfl rfl rfl rfl (by kernel_rfl) Tryd.func6 (by kernel_rfl)
    (of_decide_eq_true (by kernel_rfl)) (by unfold Func.isWrapper; first | (rw [if_pos (by decide +kernel)]; kernel_rfl) | (rw [if_neg (by decide +kernel)]; exact ⟨rfl, rfl⟩))
    (fun os started H enc _ => lifted os started H enc)

theorem row_holds : Rows.BloomSeldomSaid := over

theorem proved : Rows.BloomSeldomCardSaid :=
  Claim7.holds_tied_plain_at .later [] [.data] true (true, "a242194d1dd8ddfecce282d146b79de8b18060493629501b30c70e1d17e7b79a") false
    row_holds (fun _ h => by cases h) (by kernel_rfl) (fun _ h => by cases h) bloomSeldom_row_tie rfl ⟨rfl, rfl⟩ (by kernel_rfl) rfl
    (fun f fn hf hfn => by
      obtain rfl : f = 6 := Option.some.inj ((show Tryd.prog.funcNamed Tryd.f6.name = some 6 by kernel_rfl).symm.trans hf) |>.symm
      obtain rfl : fn = Tryd.f6 := (Option.some.inj (Tryd.func6.symm.trans hfn)).symm
      exact ⟨by kernel_rfl, fun j t ht => by
        rw [Tryd.params6] at ht
        have hm : t ∈ [3] := by have := Array.mem_of_getElem? ht; simp at this; simp [this]
        have hall : ([3].all fun u => !Tryd.prog.wantsStandIn u) = true := by kernel_rfl
        exact (show Tryd.prog.wantsStandIn t = false by simpa using List.all_eq_true.1 hall t hm)⟩)
    (by kernel_rfl)
#print axioms proved
end Go.Proofs.YtajgmadohhagkaaDoor.bloomSeldom
