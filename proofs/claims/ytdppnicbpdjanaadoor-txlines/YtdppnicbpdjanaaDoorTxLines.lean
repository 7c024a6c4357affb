/- Transactions laid one behind the other are read as they were, one by one, and have the same numbers. -/
import Derived.Test.YtdppnicbpdjanaaDoorRows
import Derived.Test.YtdppnicbpdjanaaDoorTie
import Derived.Test.YtdppnicbpdjanaaDoorCards
import Derived.Test.YtdppnicbpdjanaaDoorMath
import Derived.Test.YtdppnicbpdjanaaDoorMath2
import Derived.Test.YtdppnicbpdjanaaDoorLaid
import Derived.Test.YtdppnicbpdjanaaDoorBuf
import Derived.Test.YtdppnicbpdjanaaDoorStr
import Derived.Test.YtdppnicbpdjanaaDoorOpw
import Derived.Test.YtdppnicbpdjanaaDoorArr
import Derived.Test.YtdppnicbpdjanaaDoorArrIn
import Derived.Test.YtdppnicbpdjanaaDoorDM
import Derived.Test.YtdppnicbpdjanaaDoorNN
import Derived.Test.YtdppnicbpdjanaaDoorApp
import Derived.Test.YtdppnicbpdjanaaDoorTch
import Derived.Test.YtdppnicbpdjanaaDoorRowN
import Derived.Test.YtdppnicbpdjanaaDoorOpenG
import Derived.Test.YtdppnicbpdjanaaDoorArm
import Derived.Test.YtdppnicbpdjanaaDoorX0
import Derived.Test.YtdppnicbpdjanaaDoorX1
import Derived.Test.YtdppnicbpdjanaaDoorX2
import Derived.Test.YtdppnicbpdjanaaDoorX3
import Derived.Test.YtdppnicbpdjanaaDoorX4
import Derived.Test.YtdppnicbpdjanaaDoorAppS
import Derived.Test.YtdppnicbpdjanaaDoorX5
import Derived.Test.YtdppnicbpdjanaaDoorX6
import Derived.Test.YtdppnicbpdjanaaDoorX7
import Derived.Test.YtdppnicbpdjanaaDoorX8
import Derived.Test.YtdppnicbpdjanaaDoorX9
import Derived.Test.YtdppnicbpdjanaaDoorY1
import Derived.Test.YtdppnicbpdjanaaDoorY2
import Derived.Test.YtdppnicbpdjanaaDoorY3
import Derived.Test.YtdppnicbpdjanaaDoorY4
import Derived.Test.YtdppnicbpdjanaaDoorY5
import Derived.Test.YtdppnicbpdjanaaDoorY6
import Derived.Test.YtdppnicbpdjanaaDoorY7
import Derived.Test.YtdppnicbpdjanaaDoorY8
import Derived.Test.YtdppnicbpdjanaaDoorYA
import Derived.Test.YtdppnicbpdjanaaDoorYB
import Derived.Test.YtdppnicbpdjanaaDoorXO
import Derived.Test.YtdppnicbpdjanaaDoorXH
import Derived.Test.YtdppnicbpdjanaaDoorXB
import Derived.Test.YtdppnicbpdjanaaDoorXD
import Derived.Test.YtdppnicbpdjanaaDoorXE
import Derived.Test.YtdppnicbpdjanaaDoorXK
import Derived.Test.YtdppnicbpdjanaaDoorZ2
import Derived.Test.YtdppnicbpdjanaaDoorXI
import Derived.Test.YtdppnicbpdjanaaDoorXJ
import Derived.Test.YtdppnicbpdjanaaDoorZ3
import Derived.Test.YtdppnicbpdjanaaDoorZ4
import Derived.Test.YtdppnicbpdjanaaDoorXM
import Derived.Test.YtdppnicbpdjanaaDoorXN
import Derived.WalkKit
import Derived.ProofKit
import Derived.OpenShut
import Derived.ShutString
import Derived.ChangeOld
import Derived.Below
namespace Go.Proofs.YtdppnicbpdjanaaDoor.txLines
open Go.ChangeShapes Go.WideShapes Go.ChangeAt Go.RowKit
open Go.ChangeMaps (open_string shut_string)
set_option linter.unusedVariables false
set_option linter.unusedSimpArgs false

theorem own : ownKnob Tryd.prog.godebug = none := by kernel_rfl
theorem laidOut : laidOutB Tryd.prog = true := by kernel_rfl

def IsRow (k : IntKind) (w : World) (a : Option Addr) (len cap : Nat) (zs : List Int) : Prop :=
  (a = none ∧ len = 0 ∧ cap = 0 ∧ zs = []) ∨
  ∃ x, a = some x ∧ len ≤ cap ∧ cap ≤ maxLen ∧ zs.length = cap ∧ (∀ i, i < zs.length → w.cell? (x.add i) = some (.int k (zs.getD i 0))) ∧ ∀ n ∈ zs, (Lit.int k n).wf = true

set_option maxRecDepth 100000 in
theorem lifted (os : Os) (started : os.Started) (H : Type) (enc : TypeId × Value → H) :
    ReturnsInHanded {} Tryd.checked os 4 .any (fun w args => (Rows.txLinesSpec.pre enc Tryd.prog Tryd.f4 [] false w args ∧ laidMetH Tryd.prog Rows.txLinesRow.laid w) ∧ sizedMet enc Tryd.prog Tryd.f4 (OpenSpec.ofChange Rows.txLinesSpec) false w args) (Rows.txLinesSpec.post enc Tryd.prog Tryd.f4 false true false false) := by
  refine returnsInHanded_of_change_and (C := Tryd.checked) (X := fun w _ => laidMetH Tryd.prog Rows.txLinesRow.laid w) (fun _ _ _ hh h => h.of_heap hh) own started (by kernel_rfl) Tryd.func4
    (ChangeSpec.witness_shaped (enc := enc) (C := Tryd.checked) (os := os) (X := fun w _ => laidMetH Tryd.prog Rows.txLinesRow.laid w) false (World.doorLaid Tryd.prog 400 os) #[.slice none 0 0] 8 rfl (World.shaped_of_RefB (by kernel_rfl) (by kernel_rfl)) (by kernel_rfl) (by kernel_rfl) (by kernel_rfl) (door_met os _)) ?_
  intro W base args ds gs before hval0 hW _ _ hL _
  have ht : TabAt W := tab_of_laid hL
  have hval : ∀ (j : Nat) t v, Tryd.f4.params[j]? = some t → args[j]? = some v → Value.okWide Tryd.prog W .any base t v := hval0
  have hW' := hW
  obtain ⟨p, q, hA0, hV, rfl, hfz, hnd⟩ := hW
  have hA : DataW.TrodAll enc Tryd.prog W 0 (fun _ => true) true Tryd.f4.params.toList args.toList ds p := hA0
  rw [Tryd.params4] at hA hval
  obtain ⟨v0, vs0, d0, ds0, p0, q0, hargs, rfl, rfl, h0, r0⟩ := trodAll_cons hA
  obtain ⟨rfl, rfl, rfl⟩ := trodAll_nil r0
  obtain rfl : args = #[v0] := by cases args; simp_all
  obtain ⟨rfl, rfl⟩ := trodVars_none hV
  have k0 := h0
  have lt0 : ∀ x ∈ p0, x.block < W.heap.size := by obtain ⟨m, hm⟩ := k0; exact DataW.trod_lt m _ _ _ hm
  obtain ⟨a0, cap0, L0, rfl, w0⟩ := open_txs (hval 0 44 v0 rfl rfl) h0
  clear hA0 hval0
  have hwalk : Calls Tryd.prog 4 #[.slice a0 L0.length cap0] W fun e w' => e = .returned (.bool true) ∧ Below W.heap.size W w' := by
    exact lines_walk a0 cap0 L0 W w0 ht
  refine hwalk.mono fun e W' ⟨he, bel⟩ => ?_
  subst he
  exact ⟨_, rfl, _, _, _, [], _, [], hW', trodAll_mk1 (shut_bool Tryd.underlying4 _), (trodAll_cons_mk (Below.trod laidOut (by kernel_rfl) (of_decide_eq_true (by kernel_rfl)) k0 bel lt0) trodAll_mk0), rfl, bel.frame _, fun h => by cases h⟩

theorem over : Rows.txLinesRow.holds Tryd.pinned (OpenSpec.ofChange Rows.txLinesSpec) :=
  OpenClaim.holds_of_wide 4 Tryd.f4 rfl rfl rfl rfl rfl rfl rfl ⟨rfl, rfl, rfl, rfl, rfl⟩ rfl rfl rfl rfl rfl (by kernel_rfl) Tryd.func4 (by kernel_rfl)
    (of_decide_eq_true (by kernel_rfl)) (by unfold Func.isWrapper; first | (rw [if_pos (by decide +kernel)]; kernel_rfl) | (rw [if_neg (by decide +kernel)]; exact ⟨rfl, rfl⟩))
    (fun os started H enc _ => lifted os started H enc)

theorem row_holds : Rows.TxLinesSaid := over

theorem proved : Rows.TxLinesCardSaid :=
  Claim7.holds_tied_plain_at .later [] [.data] true (true, "f5a5c03dcb90abeff0adfb0d8ed78ce2e607799f4bfe643475ff94f9665dc9b4") false
    row_holds (fun _ h => by cases h) (by kernel_rfl) (fun _ h => by cases h) txLines_row_tie rfl ⟨rfl, rfl⟩ (by kernel_rfl) rfl
    (fun f fn hf hfn => by
      obtain rfl : f = 4 := Option.some.inj ((show Tryd.prog.funcNamed Tryd.f4.name = some 4 by kernel_rfl).symm.trans hf) |>.symm
      obtain rfl : fn = Tryd.f4 := (Option.some.inj (Tryd.func4.symm.trans hfn)).symm
      exact ⟨by kernel_rfl, fun j t ht => by
        rw [Tryd.params4] at ht
        have hm : t ∈ [44] := by have := Array.mem_of_getElem? ht; simp at this; simp [this]
        have hall : ([44].all fun u => !Tryd.prog.wantsStandIn u) = true := by kernel_rfl
        exact (show Tryd.prog.wantsStandIn t = false by simpa using List.all_eq_true.1 hall t hm)⟩)
    (by kernel_rfl)
#print axioms proved
end Go.Proofs.YtdppnicbpdjanaaDoor.txLines
