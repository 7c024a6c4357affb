/- TxCoins: for every transaction, the law on its coins, on the first transaction of a block and on the place that is nowhere returns true; no condition. -/
import Derived.Test.YtilleflhbodmkaaRows
import Derived.Test.YtilleflhbodmkaaMath
import Derived.Test.YtilleflhbodmkaaBuf
import Derived.Test.YtilleflhbodmkaaMath2
import Derived.Test.YtilleflhbodmkaaStr
import Derived.Test.YtilleflhbodmkaaOpw
import Derived.Test.YtilleflhbodmkaaArr
import Derived.Test.YtilleflhbodmkaaArrIn
import Derived.Test.YtilleflhbodmkaaN0
import Derived.Test.YtilleflhbodmkaaNL
import Derived.Test.YtilleflhbodmkaaNC
import Derived.Test.YtilleflhbodmkaaApp
import Derived.Test.YtilleflhbodmkaaTch
import Derived.Test.YtilleflhbodmkaaRowN
import Derived.Test.YtilleflhbodmkaaOpenG
import Derived.Test.YtilleflhbodmkaaArm
import Derived.Test.YtilleflhbodmkaaX0
import Derived.Test.YtilleflhbodmkaaX1
import Derived.Test.YtilleflhbodmkaaX2
import Derived.Test.YtilleflhbodmkaaX3
import Derived.Test.YtilleflhbodmkaaX4
import Derived.Test.YtilleflhbodmkaaAppS
import Derived.Test.YtilleflhbodmkaaX5
import Derived.Test.YtilleflhbodmkaaX6
import Derived.Test.YtilleflhbodmkaaX7
import Derived.Test.YtilleflhbodmkaaX8
import Derived.Test.YtilleflhbodmkaaX9
import Derived.Test.YtilleflhbodmkaaY1
import Derived.Test.YtilleflhbodmkaaY2
import Derived.Test.YtilleflhbodmkaaY3
import Derived.Test.YtilleflhbodmkaaY4
import Derived.Test.YtilleflhbodmkaaY5
import Derived.Test.YtilleflhbodmkaaY6
import Derived.Test.YtilleflhbodmkaaY7
import Derived.Test.YtilleflhbodmkaaY8
import Derived.Test.YtilleflhbodmkaaYA
import Derived.Test.YtilleflhbodmkaaYB
import Derived.Test.YtilleflhbodmkaaXO
import Derived.Test.YtilleflhbodmkaaXH
import Derived.Test.YtilleflhbodmkaaXF
import Derived.Test.YtilleflhbodmkaaXG
import Derived.WalkKit
import Derived.ProofKit
import Derived.OpenShut
import Derived.ShutString
import Derived.ChangeOld
import Derived.Below
namespace Go.Proofs.Ytilleflhbodmkaa.txCoins
open Go.ChangeShapes Go.WideShapes Go.ChangeAt Go.RowKit
open Go.ChangeMaps (open_string shut_string)
set_option linter.unusedVariables false
set_option linter.unusedSimpArgs false

theorem own : ownKnob Try.prog.godebug = none := by kernel_rfl
theorem laidOut : laidOutB Try.prog = true := by kernel_rfl

def IsRow (k : IntKind) (w : World) (a : Option Addr) (len cap : Nat) (zs : List Int) : Prop :=
  (a = none ∧ len = 0 ∧ cap = 0 ∧ zs = []) ∨
  ∃ x, a = some x ∧ len ≤ cap ∧ cap ≤ maxLen ∧ zs.length = cap ∧ (∀ i, i < zs.length → w.cell? (x.add i) = some (.int k (zs.getD i 0))) ∧ ∀ n ∈ zs, (Lit.int k n).wf = true

set_option maxRecDepth 100000 in
theorem lifted (os : Os) (started : os.Started) (H : Type) (enc : TypeId × Value → H) :
    ReturnsInHanded {} Try.checked os 5 .any (Rows.txCoinsSpec.pre6 enc Try.prog Try.f5 Rows.txCoinsRow.domain false) (Rows.txCoinsSpec.post enc Try.prog Try.f5 false true false false) := by
  refine returnsInHanded_of_change (C := Try.checked) own started (by kernel_rfl) Try.func5
    (ChangeSpec.witness6 (enc := enc) (C := Try.checked) false ⟨#[], #[.agg #[.int .i32 0, .slice none 0 0, .slice none 0 0, .int .u32 0]], []⟩ 8 (by kernel_rfl) (by kernel_rfl) (by kernel_rfl) (by kernel_rfl)) ?_
  intro W base args ds gs before hval0 hW hcnd _
  have hval : ∀ (j : Nat) t v, Try.f5.params[j]? = some t → args[j]? = some v → Value.okWide Try.prog W .any base t v := hval0
  have hW' := hW
  obtain ⟨p, q, hA0, hV, rfl, hfz, hnd⟩ := hW
  have hA : DataW.TrodAll enc Try.prog W 0 (fun _ => true) true Try.f5.params.toList args.toList ds p := hA0
  rw [Try.params5] at hA hval
  obtain ⟨v0, vs0, d0, ds0, p0, q0, hargs, rfl, rfl, h0, r0⟩ := trodAll_cons hA
  obtain ⟨rfl, rfl, rfl⟩ := trodAll_nil r0
  obtain rfl : args = #[v0] := by cases args; simp_all
  obtain ⟨rfl, rfl⟩ := trodVars_none hV
  have k0 := h0
  have lt0 : ∀ x ∈ p0, x.block < W.heap.size := by obtain ⟨m, hm⟩ := k0; exact DataW.trod_lt m _ _ _ hm
  obtain ⟨t0, rfl, w0⟩ := open_tx (hval 0 26 v0 rfl rfl) h0
  clear hA0 hval0
  have hwalk : Calls Try.prog 5 #[t0.val] W fun e w' => e = .returned (.bool true) ∧ Below W.heap.size W w' := by
    exact coins_walk t0 W w0
  refine hwalk.mono fun e W' ⟨he, bel⟩ => ?_
  subst he
  exact ⟨_, rfl, _, _, _, [], _, [], hW', trodAll_mk1 (shut_bool Try.underlying4 _), (trodAll_cons_mk (Below.trod laidOut (by kernel_rfl) (of_decide_eq_true (by kernel_rfl)) k0 bel lt0) trodAll_mk0), rfl, bel.frame _, fun h => by cases h⟩

theorem over : Rows.txCoinsRow.holds Try.pinned (OpenSpec.ofChange Rows.txCoinsSpec) :=
  OpenClaim.holds_of_wide 5 Try.f5 rfl rfl rfl rfl rfl rfl rfl ⟨rfl, rfl, rfl, rfl, rfl⟩ rfl rfl rfl rfl rfl (by kernel_rfl) Try.func5 (by kernel_rfl)
    (of_decide_eq_true (by kernel_rfl)) (by unfold Func.isWrapper; first | (rw [if_pos (by decide +kernel)]; kernel_rfl) | (rw [if_neg (by decide +kernel)]; exact ⟨rfl, rfl⟩))
    (fun os started H enc _ => lifted os started H enc)

theorem proved : Rows.TxCoinsSaid := over
#print axioms proved
end Go.Proofs.Ytilleflhbodmkaa.txCoins
