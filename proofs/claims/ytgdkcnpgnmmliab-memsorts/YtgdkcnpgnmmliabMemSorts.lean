/- MemSorts answers true for every list of steps, with no condition but that the list can be read as data. -/
import Derived.Test.YtgdkcnpgnmmliabRows
import Derived.Test.YtgdkcnpgnmmliabBuf
import Derived.Test.YtgdkcnpgnmmliabStr
import Derived.Test.YtgdkcnpgnmmliabOpw
import Derived.Test.YtgdkcnpgnmmliabArr
import Derived.Test.YtgdkcnpgnmmliabArrIn
import Derived.Test.YtgdkcnpgnmmliabRowN
import Derived.Test.YtgdkcnpgnmmliabOpenG
import Derived.Test.YtgdkcnpgnmmliabArm
import Derived.Test.YtgdkcnpgnmmliabK1
import Derived.Test.YtgdkcnpgnmmliabChkM
import Derived.Test.YtgdkcnpgnmmliabAt4
import Derived.Test.YtgdkcnpgnmmliabM1
import Derived.Test.YtgdkcnpgnmmliabM2
import Derived.Test.YtgdkcnpgnmmliabM3
import Derived.Test.YtgdkcnpgnmmliabIM2
import Derived.Test.YtgdkcnpgnmmliabIM3
import Derived.Test.YtgdkcnpgnmmliabTch
import Derived.Test.YtgdkcnpgnmmliabS0
import Derived.Test.YtgdkcnpgnmmliabI1
import Derived.Test.YtgdkcnpgnmmliabI0
import Derived.Test.YtgdkcnpgnmmliabI2
import Derived.Test.YtgdkcnpgnmmliabI3
import Derived.Test.YtgdkcnpgnmmliabI4
import Derived.Test.YtgdkcnpgnmmliabI5
import Derived.WalkKit
import Derived.ProofKit
import Derived.OpenShut
import Derived.ShutString
import Derived.ChangeOld
import Derived.Below
namespace Go.Proofs.Ytgdkcnpgnmmliab.memSorts
open Go.ChangeShapes Go.WideShapes Go.ChangeAt Go.RowKit
open Go.ChangeMaps (open_string shut_string)
set_option linter.unusedVariables false
set_option linter.unusedSimpArgs false

theorem own : ownKnob Try.prog.godebug = none := by kernel_rfl
theorem laidOut : laidOutB Try.prog = true := by kernel_rfl

def IsRow (k : IntKind) (w : World) (a : Option Addr) (len cap : Nat) (zs : List Int) : Prop :=
  (a = none ∧ len = 0 ∧ cap = 0 ∧ zs = []) ∨
  ∃ x, a = some x ∧ len ≤ cap ∧ cap ≤ maxLen ∧ zs.length = cap ∧ (∀ i, i < zs.length → w.cell? (x.add i) = some (.int k (zs.getD i 0))) ∧ ∀ n ∈ zs, (Lit.int k n).wf = true

set_option maxRecDepth 100000 in
theorem lifted (os : Os) (started : os.Started) (H : Type) (enc : TypeId × Value → H) :
    ReturnsInHanded {} Try.checked os 3 .any (Rows.memSortsSpec.pre6 enc Try.prog Try.f3 Rows.memSortsRow.domain false) (Rows.memSortsSpec.post enc Try.prog Try.f3 false true false false) := by
  refine returnsInHanded_of_change (C := Try.checked) own started (by kernel_rfl) Try.func3
    (ChangeSpec.witness6 (enc := enc) (C := Try.checked) false ⟨#[], #[.slice none 0 0], []⟩ 8 (by kernel_rfl) (by kernel_rfl) (by kernel_rfl) (by kernel_rfl)) ?_
  intro W base args ds gs before hval0 hW hcnd _
  have hval : ∀ (j : Nat) t v, Try.f3.params[j]? = some t → args[j]? = some v → Value.okWide Try.prog W .any base t v := hval0
  have hW' := hW
  obtain ⟨p, q, hA0, hV, rfl, hfz, hnd⟩ := hW
  have hA : DataW.TrodAll enc Try.prog W 0 (fun _ => true) true Try.f3.params.toList args.toList ds p := hA0
  rw [Try.params3] at hA hval
  obtain ⟨v0, vs0, d0, ds0, p0, q0, hargs, rfl, rfl, h0, r0⟩ := trodAll_cons hA
  obtain ⟨rfl, rfl, rfl⟩ := trodAll_nil r0
  obtain rfl : args = #[v0] := by cases args; simp_all
  obtain ⟨rfl, rfl⟩ := trodVars_none hV
  have k0 := h0
  have lt0 : ∀ x ∈ p0, x.block < W.heap.size := by obtain ⟨m, hm⟩ := k0; exact DataW.trod_lt m _ _ _ hm
  obtain ⟨a0, cap0, L0, rfl, w0, f0, c0, m0⟩ := open_ops (hval 0 22 v0 rfl rfl) h0
  clear hA0 hval0
  have hwalk : Calls Try.prog 3 #[.slice a0 L0.length cap0] W fun e w' => e = .returned (.bool true) ∧ Below W.heap.size W w' := by
    exact sorts_walk a0 cap0 L0 W w0 f0 (Nat.le_trans c0 m0)
  refine hwalk.mono fun e W' ⟨he, bel⟩ => ?_
  subst he
  exact ⟨_, rfl, _, _, _, [], _, [], hW', trodAll_mk1 (shut_bool Try.underlying4 _), (trodAll_cons_mk (Below.trod laidOut (by kernel_rfl) (of_decide_eq_true (by kernel_rfl)) k0 bel lt0) trodAll_mk0), rfl, bel.frame _, fun h => by cases h⟩

theorem over : Rows.memSortsRow.holds Try.pinned (OpenSpec.ofChange Rows.memSortsSpec) :=
  OpenClaim.holds_of_wide 3 Try.f3 rfl rfl rfl rfl rfl rfl rfl ⟨rfl, rfl, rfl, rfl, rfl⟩ rfl rfl rfl rfl rfl (by kernel_rfl) Try.func3 (by kernel_rfl)
    (of_decide_eq_true (by kernel_rfl)) (by unfold Func.isWrapper; first | (rw [if_pos (by decide +kernel)]; kernel_rfl) | (rw [if_neg (by decide +kernel)]; exact ⟨rfl, rfl⟩))
    (fun os started H enc _ => lifted os started H enc)

theorem proved : Rows.MemSortsSaid := over
#print axioms proved
end Go.Proofs.Ytgdkcnpgnmmliab.memSorts
