/- A transaction's bytes, or why it has none, are those of the definition; read again, whatever stands behind, it is the same transaction. -/
import Derived.Test.YtkdkihacpjhgmaaRows
import Derived.Test.YtkdkihacpjhgmaaMath
import Derived.Test.YtkdkihacpjhgmaaBuf
import Derived.Test.YtkdkihacpjhgmaaMath2
import Derived.Test.YtkdkihacpjhgmaaStr
import Derived.Test.YtkdkihacpjhgmaaOpw
import Derived.Test.YtkdkihacpjhgmaaArr
import Derived.Test.YtkdkihacpjhgmaaArrIn
import Derived.Test.YtkdkihacpjhgmaaN0
import Derived.Test.YtkdkihacpjhgmaaNL
import Derived.Test.YtkdkihacpjhgmaaNC
import Derived.Test.YtkdkihacpjhgmaaApp
import Derived.Test.YtkdkihacpjhgmaaTch
import Derived.Test.YtkdkihacpjhgmaaRowN
import Derived.Test.YtkdkihacpjhgmaaOpenG
import Derived.Test.YtkdkihacpjhgmaaArm
import Derived.Test.YtkdkihacpjhgmaaX0
import Derived.Test.YtkdkihacpjhgmaaX1
import Derived.Test.YtkdkihacpjhgmaaX2
import Derived.Test.YtkdkihacpjhgmaaX3
import Derived.Test.YtkdkihacpjhgmaaX4
import Derived.Test.YtkdkihacpjhgmaaAppS
import Derived.Test.YtkdkihacpjhgmaaX5
import Derived.Test.YtkdkihacpjhgmaaX6
import Derived.Test.YtkdkihacpjhgmaaX7
import Derived.Test.YtkdkihacpjhgmaaX8
import Derived.Test.YtkdkihacpjhgmaaX9
import Derived.Test.YtkdkihacpjhgmaaY1
import Derived.Test.YtkdkihacpjhgmaaY2
import Derived.Test.YtkdkihacpjhgmaaY3
import Derived.Test.YtkdkihacpjhgmaaY4
import Derived.Test.YtkdkihacpjhgmaaY5
import Derived.Test.YtkdkihacpjhgmaaY6
import Derived.Test.YtkdkihacpjhgmaaY7
import Derived.Test.YtkdkihacpjhgmaaY8
import Derived.Test.YtkdkihacpjhgmaaYA
import Derived.Test.YtkdkihacpjhgmaaYB
import Derived.Test.YtkdkihacpjhgmaaXO
import Derived.Test.YtkdkihacpjhgmaaXH
import Derived.Test.YtkdkihacpjhgmaaXB
import Derived.Test.YtkdkihacpjhgmaaXD
import Derived.Test.YtkdkihacpjhgmaaXE
import Derived.Test.YtkdkihacpjhgmaaXK
import Derived.Test.YtkdkihacpjhgmaaConv
import Derived.Test.YtkdkihacpjhgmaaZ1
import Derived.Test.YtkdkihacpjhgmaaZ2
import Derived.Test.YtkdkihacpjhgmaaZ3
import Derived.Test.YtkdkihacpjhgmaaZ4
import Derived.Test.YtkdkihacpjhgmaaRA
import Derived.Test.YtkdkihacpjhgmaaRL
import Derived.Test.YtkdkihacpjhgmaaRE
import Derived.Test.YtkdkihacpjhgmaaRW
import Derived.WalkKit
import Derived.ProofKit
import Derived.OpenShut
import Derived.ShutString
import Derived.ChangeOld
import Derived.Below
namespace Go.Proofs.Ytkdkihacpjhgmaa.txWrites
open Go.ChangeShapes Go.WideShapes Go.ChangeAt Go.RowKit
open Go.ChangeMaps (open_string shut_string)
set_option linter.unusedVariables false
set_option linter.unusedSimpArgs false

theorem own : ownKnob Try.prog.godebug = none := by kernel_rfl
theorem laidOut : laidOutB Try.prog = true := by kernel_rfl

def IsRow (k : IntKind) (w : World) (a : Option Addr) (len cap : Nat) (zs : List Int) : Prop :=
  (a = none ∧ len = 0 ∧ cap = 0 ∧ zs = []) ∨
  ∃ x, a = some x ∧ len ≤ cap ∧ cap ≤ maxLen ∧ zs.length = cap ∧ (∀ i, i < zs.length → w.cell? (x.add i) = some (.int k (zs.getD i 0))) ∧ ∀ n ∈ zs, (Lit.int k n).wf = true

set_option maxRecDepth 100000 in
theorem lifted (os : Os) (started : os.Started) (H : Type) (enc : TypeId × Value → H) :
    ReturnsInHanded {} Try.checked os 3 .any (Rows.txWritesSpec.pre6 enc Try.prog Try.f3 Rows.txWritesRow.domain false) (Rows.txWritesSpec.post enc Try.prog Try.f3 false true false false) := by
  refine returnsInHanded_of_change (C := Try.checked) own started (by kernel_rfl) Try.func3
    (ChangeSpec.witness6 (enc := enc) (C := Try.checked) false ⟨#[], #[.agg #[.int .i32 0, .slice none 0 0, .slice none 0 0, .int .u32 0], .slice none 0 0], []⟩ 8 (by kernel_rfl) (by kernel_rfl) (by kernel_rfl) (by kernel_rfl)) ?_
  intro W base args ds gs before hval0 hW hcnd _
  have hval : ∀ (j : Nat) t v, Try.f3.params[j]? = some t → args[j]? = some v → Value.okWide Try.prog W .any base t v := hval0
  have hW' := hW
  obtain ⟨p, q, hA0, hV, rfl, hfz, hnd⟩ := hW
  have hA : DataW.TrodAll enc Try.prog W 0 (fun _ => true) true Try.f3.params.toList args.toList ds p := hA0
  rw [Try.params3] at hA hval
  obtain ⟨v0, vs0, d0, ds0, p0, q0, hargs, rfl, rfl, h0, r0⟩ := trodAll_cons hA
  obtain ⟨v1, vs1, d1, ds1, p1, q1, rfl, rfl, rfl, h1, r1⟩ := trodAll_cons r0
  obtain ⟨rfl, rfl, rfl⟩ := trodAll_nil r1
  obtain rfl : args = #[v0, v1] := by cases args; simp_all
  obtain ⟨rfl, rfl⟩ := trodVars_none hV
  have k0 := h0
  have lt0 : ∀ x ∈ p0, x.block < W.heap.size := by obtain ⟨m, hm⟩ := k0; exact DataW.trod_lt m _ _ _ hm
  obtain ⟨t0, rfl, w0⟩ := open_tx (hval 0 26 v0 rfl rfl) h0
  have k1 := h1
  have lt1 : ∀ x ∈ p1, x.block < W.heap.size := by obtain ⟨m, hm⟩ := k1; exact DataW.trod_lt m _ _ _ hm
  obtain ⟨a1, len1, cap1, rfl⟩ := okWide_slice Try.underlying27 (hval 1 27 v1 rfl rfl)
  obtain ⟨z1, w1⟩ : ∃ zs, IsRow .u8 W a1 len1 cap1 zs := by
    obtain ⟨fuel, hf⟩ := h1
    rcases open_ints Try.underlying27 Try.underlying5 (by kernel_rfl) hf with ⟨hcs, _⟩ | ⟨x, l, c, zs, hcs, _, hl, hm, hz, _, hcell, hwz⟩
    · simp [Value.cells] at hcs
      obtain ⟨rfl, rfl, rfl⟩ := hcs
      exact ⟨[], .inl ⟨rfl, rfl, rfl, rfl⟩⟩
    · simp [Value.cells] at hcs
      obtain ⟨rfl, rfl, rfl⟩ := hcs
      exact ⟨zs, .inr ⟨_, rfl, hl, hm, by simpa using hz, hcell, hwz⟩⟩
  clear hA0 hval0
  have hwalk : Calls Try.prog 3 #[t0.val, .slice a1 len1 cap1] W fun e w' => e = .returned (.bool true) ∧ Below W.heap.size W w' := by
    obtain ⟨l1, hr1, hb1, hlen1, hc1, hm1⟩ := rd_of_row w1
    exact writes_walk t0 a1 len1 cap1 l1 W w0 hr1 hb1 hc1 hm1
  refine hwalk.mono fun e W' ⟨he, bel⟩ => ?_
  subst he
  exact ⟨_, rfl, _, _, _, [], _, [], hW', trodAll_mk1 (shut_bool Try.underlying4 _), (trodAll_cons_mk (Below.trod laidOut (by kernel_rfl) (of_decide_eq_true (by kernel_rfl)) k0 bel lt0) (trodAll_cons_mk (Below.trod laidOut (by kernel_rfl) (of_decide_eq_true (by kernel_rfl)) k1 bel lt1) trodAll_mk0)), rfl, bel.frame _, fun h => by cases h⟩

theorem over : Rows.txWritesRow.holds Try.pinned (OpenSpec.ofChange Rows.txWritesSpec) :=
  OpenClaim.holds_of_wide 3 Try.f3 rfl rfl rfl rfl rfl rfl rfl ⟨rfl, rfl, rfl, rfl, rfl⟩ rfl rfl rfl rfl rfl (by kernel_rfl) Try.func3 (by kernel_rfl)
    (of_decide_eq_true (by kernel_rfl)) (by unfold Func.isWrapper; first | (rw [if_pos (by decide +kernel)]; kernel_rfl) | (rw [if_neg (by decide +kernel)]; exact ⟨rfl, rfl⟩))
    (fun os started H enc _ => lifted os started H enc)

theorem proved : Rows.TxWritesSaid := over
#print axioms proved
end Go.Proofs.Ytkdkihacpjhgmaa.txWrites
