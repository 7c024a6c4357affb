/- KeyInners returns true for all entries: an entry's key and number as a text, and back; such texts stand in their order; no condition. -/
import Derived.Test.YtahbhaphodgomacRows
import Derived.Test.YtahbhaphodgomacMath
import Derived.Test.YtahbhaphodgomacMath2
import Derived.Test.YtahbhaphodgomacBuf
import Derived.Test.YtahbhaphodgomacStr
import Derived.Test.YtahbhaphodgomacOpw
import Derived.Test.YtahbhaphodgomacW1
import Derived.Test.YtahbhaphodgomacW2
import Derived.Test.YtahbhaphodgomacW3
import Derived.Test.YtahbhaphodgomacW5
import Derived.Test.YtahbhaphodgomacK1
import Derived.Test.YtahbhaphodgomacKM
import Derived.Test.YtahbhaphodgomacApp
import Derived.Test.YtahbhaphodgomacK2
import Derived.Test.YtahbhaphodgomacK3
import Derived.Test.YtahbhaphodgomacConv
import Derived.Test.YtahbhaphodgomacAt4
import Derived.Test.YtahbhaphodgomacK4
import Derived.Test.YtahbhaphodgomacK5
import Derived.Test.YtahbhaphodgomacEntIn
import Derived.Test.YtahbhaphodgomacChkM
import Derived.Test.YtahbhaphodgomacChkW
import Derived.Test.YtahbhaphodgomacOutM
import Derived.Test.YtahbhaphodgomacOutW
import Derived.Test.YtahbhaphodgomacInnM
import Derived.Test.YtahbhaphodgomacInnW
import Derived.Test.YtahbhaphodgomacInnX
import Derived.WalkKit
import Derived.ProofKit
import Derived.OpenShut
import Derived.ShutString
import Derived.ChangeOld
import Derived.Below
namespace Go.Proofs.Ytahbhaphodgomac.keyInners
open Go.ChangeShapes Go.WideShapes Go.ChangeAt Go.RowKit
open Go.ChangeMaps (open_string shut_string)
set_option linter.unusedVariables false
set_option linter.unusedSimpArgs false

theorem own : ownKnob Try.prog.godebug = none := by kernel_rfl
theorem laidOut : laidOutB Try.prog = true := by kernel_rfl

def IsRow (k : IntKind) (w : World) (a : Option Addr) (len cap : Nat) (zs : List Int) : Prop :=
  (a = none ∧ len = 0 ∧ cap = 0 ∧ zs = []) ∨
  ∃ x, a = some x ∧ len ≤ cap ∧ cap ≤ maxLen ∧ zs.length = cap ∧ (∀ i, i < zs.length → w.cell? (x.add i) = some (.int k (zs.getD i 0))) ∧ ∀ n ∈ zs, (Lit.int k n).wf = true

set_option maxRecDepth 100000 in
theorem lifted (os : Os) (started : os.Started) (H : Type) (enc : TypeId × Value → H) :
    ReturnsInHanded {} Try.checked os 4 .any (Rows.keyInnersSpec.pre6 enc Try.prog Try.f4 Rows.keyInnersRow.domain false) (Rows.keyInnersSpec.post enc Try.prog Try.f4 false true false false) := by
  refine returnsInHanded_of_change (C := Try.checked) own started (by kernel_rfl) Try.func4
    (ChangeSpec.witness6 (enc := enc) (C := Try.checked) false ⟨#[], #[.agg #[.string ByteArray.empty, .int .u64 0, .bool false, .string ByteArray.empty], .agg #[.string ByteArray.empty, .int .u64 0, .bool false, .string ByteArray.empty]], []⟩ 8 (by kernel_rfl) (by kernel_rfl) (by kernel_rfl) (by kernel_rfl)) ?_
  intro W base args ds gs before hval0 hW hcnd _
  have hval : ∀ (j : Nat) t v, Try.f4.params[j]? = some t → args[j]? = some v → Value.okWide Try.prog W .any base t v := hval0
  have hW' := hW
  obtain ⟨p, q, hA0, hV, rfl, hfz, hnd⟩ := hW
  have hA : DataW.TrodAll enc Try.prog W 0 (fun _ => true) true Try.f4.params.toList args.toList ds p := hA0
  rw [Try.params4] at hA hval
  obtain ⟨v0, vs0, d0, ds0, p0, q0, hargs, rfl, rfl, h0, r0⟩ := trodAll_cons hA
  obtain ⟨v1, vs1, d1, ds1, p1, q1, rfl, rfl, rfl, h1, r1⟩ := trodAll_cons r0
  obtain ⟨rfl, rfl, rfl⟩ := trodAll_nil r1
  obtain rfl : args = #[v0, v1] := by cases args; simp_all
  obtain ⟨rfl, rfl⟩ := trodVars_none hV
  have k0 := h0
  have lt0 : ∀ x ∈ p0, x.block < W.heap.size := by obtain ⟨m, hm⟩ := k0; exact DataW.trod_lt m _ _ _ hm
  obtain ⟨K0, S0, e0, u0, rfl, hk0, hu0, mk0, mu0, mS0⟩ := open_ent (hval 0 24 v0 rfl rfl) h0
  have k1 := h1
  have lt1 : ∀ x ∈ p1, x.block < W.heap.size := by obtain ⟨m, hm⟩ := k1; exact DataW.trod_lt m _ _ _ hm
  obtain ⟨K1, S1, e1, u1, rfl, hk1, hu1, mk1, mu1, mS1⟩ := open_ent (hval 1 24 v1 rfl rfl) h1
  clear hA0 hval0
  have hwalk : Calls Try.prog 4 #[ent (strB K0) S0 e0 (strB u0), ent (strB K1) S1 e1 (strB u1)] W fun e w' => e = .returned (.bool true) ∧ Below W.heap.size W w' := by
    have s0 : (strB K0).size ≤ maxLen := by rw [strB_size]; exact mk0
    have s1 : (strB u0).size ≤ maxLen := by rw [strB_size]; exact mu0
    have s2 : (strB K1).size ≤ maxLen := by rw [strB_size]; exact mk1
    have s3 : (strB u1).size ≤ maxLen := by rw [strB_size]; exact mu1
    by_cases h : passBy (strB K0) S0 e0 (strB u0) ∨ passBy (strB K1) S1 e1 (strB u1)
    · exact inners_early _ _ _ _ _ _ _ _ s0 s1 s2 s3 W h
    · refine inners_main K0 S0 e0 _ K1 S1 e1 _ hk0 hk1 s0 s1 s2 s3 W (fun q => h (.inl (.inl q))) (fun q => h (.inr (.inl q))) ?_ ?_
      · exact Classical.byContradiction fun q => h (.inl (.inr q))
      · exact Classical.byContradiction fun q => h (.inr (.inr q))
  refine hwalk.mono fun e W' ⟨he, bel⟩ => ?_
  subst he
  exact ⟨_, rfl, _, _, _, [], _, [], hW', trodAll_mk1 (shut_bool Try.underlying4 _), (trodAll_cons_mk (Below.trod laidOut (by kernel_rfl) (of_decide_eq_true (by kernel_rfl)) k0 bel lt0) (trodAll_cons_mk (Below.trod laidOut (by kernel_rfl) (of_decide_eq_true (by kernel_rfl)) k1 bel lt1) trodAll_mk0)), rfl, bel.frame _, fun h => by cases h⟩

theorem over : Rows.keyInnersRow.holds Try.pinned (OpenSpec.ofChange Rows.keyInnersSpec) :=
  OpenClaim.holds_of_wide 4 Try.f4 rfl rfl rfl rfl rfl rfl rfl ⟨rfl, rfl, rfl, rfl, rfl⟩ rfl rfl rfl rfl rfl (by kernel_rfl) Try.func4 (by kernel_rfl)
    (of_decide_eq_true (by kernel_rfl)) (by unfold Func.isWrapper; first | (rw [if_pos (by decide +kernel)]; kernel_rfl) | (rw [if_neg (by decide +kernel)]; exact ⟨rfl, rfl⟩))
    (fun os started H enc _ => lifted os started H enc)

theorem proved : Rows.KeyInnersSaid := over
#print axioms proved
end Go.Proofs.Ytahbhaphodgomac.keyInners
