/- KeyPuts returns true for all lists of entries and all bytes: entries one behind the other are read as they were; no condition. -/
import Derived.Test.YtahbhaphodgomacRows
import Derived.Test.YtahbhaphodgomacMath
import Derived.Test.YtahbhaphodgomacMath2
import Derived.Test.YtahbhaphodgomacBuf
import Derived.Test.YtahbhaphodgomacStr
import Derived.Test.YtahbhaphodgomacOpw
import Derived.Test.YtahbhaphodgomacW1
import Derived.Test.YtahbhaphodgomacW2
import Derived.Test.YtahbhaphodgomacW3
import Derived.Test.YtahbhaphodgomacW5
import Derived.Test.YtahbhaphodgomacK1
import Derived.Test.YtahbhaphodgomacKM
import Derived.Test.YtahbhaphodgomacApp
import Derived.Test.YtahbhaphodgomacK2
import Derived.Test.YtahbhaphodgomacK3
import Derived.Test.YtahbhaphodgomacConv
import Derived.Test.YtahbhaphodgomacAt4
import Derived.Test.YtahbhaphodgomacK4
import Derived.Test.YtahbhaphodgomacK5
import Derived.Test.YtahbhaphodgomacEntIn
import Derived.Test.YtahbhaphodgomacChkM
import Derived.Test.YtahbhaphodgomacChkW
import Derived.Test.YtahbhaphodgomacOutM
import Derived.Test.YtahbhaphodgomacOutW
import Derived.Test.YtahbhaphodgomacInnM
import Derived.Test.YtahbhaphodgomacInnW
import Derived.Test.YtahbhaphodgomacInnX
import Derived.Test.YtahbhaphodgomacAppS
import Derived.Test.YtahbhaphodgomacK6
import Derived.Test.YtahbhaphodgomacK7
import Derived.Test.YtahbhaphodgomacK8
import Derived.Test.YtahbhaphodgomacGetM
import Derived.Test.YtahbhaphodgomacPutsW
import Derived.Test.YtahbhaphodgomacPutsX
import Derived.WalkKit
import Derived.ProofKit
import Derived.OpenShut
import Derived.ShutString
import Derived.ChangeOld
import Derived.Below
namespace Go.Proofs.Ytahbhaphodgomac.keyPuts
open Go.ChangeShapes Go.WideShapes Go.ChangeAt Go.RowKit
open Go.ChangeMaps (open_string shut_string)
set_option linter.unusedVariables false
set_option linter.unusedSimpArgs false

theorem own : ownKnob Try.prog.godebug = none := by kernel_rfl
theorem laidOut : laidOutB Try.prog = true := by kernel_rfl

def IsRow (k : IntKind) (w : World) (a : Option Addr) (len cap : Nat) (zs : List Int) : Prop :=
  (a = none ∧ len = 0 ∧ cap = 0 ∧ zs = []) ∨
  ∃ x, a = some x ∧ len ≤ cap ∧ cap ≤ maxLen ∧ zs.length = cap ∧ (∀ i, i < zs.length → w.cell? (x.add i) = some (.int k (zs.getD i 0))) ∧ ∀ n ∈ zs, (Lit.int k n).wf = true

set_option maxRecDepth 100000 in
theorem lifted (os : Os) (started : os.Started) (H : Type) (enc : TypeId × Value → H) :
    ReturnsInHanded {} Try.checked os 6 .any (Rows.keyPutsSpec.pre6 enc Try.prog Try.f6 Rows.keyPutsRow.domain false) (Rows.keyPutsSpec.post enc Try.prog Try.f6 false true false false) := by
  refine returnsInHanded_of_change (C := Try.checked) own started (by kernel_rfl) Try.func6
    (ChangeSpec.witness6 (enc := enc) (C := Try.checked) false ⟨#[], #[.slice none 0 0, .slice none 0 0], []⟩ 8 (by kernel_rfl) (by kernel_rfl) (by kernel_rfl) (by kernel_rfl)) ?_
  intro W base args ds gs before hval0 hW hcnd _
  have hval : ∀ (j : Nat) t v, Try.f6.params[j]? = some t → args[j]? = some v → Value.okWide Try.prog W .any base t v := hval0
  have hW' := hW
  obtain ⟨p, q, hA0, hV, rfl, hfz, hnd⟩ := hW
  have hA : DataW.TrodAll enc Try.prog W 0 (fun _ => true) true Try.f6.params.toList args.toList ds p := hA0
  rw [Try.params6] at hA hval
  obtain ⟨v0, vs0, d0, ds0, p0, q0, hargs, rfl, rfl, h0, r0⟩ := trodAll_cons hA
  obtain ⟨v1, vs1, d1, ds1, p1, q1, rfl, rfl, rfl, h1, r1⟩ := trodAll_cons r0
  obtain ⟨rfl, rfl, rfl⟩ := trodAll_nil r1
  obtain rfl : args = #[v0, v1] := by cases args; simp_all
  obtain ⟨rfl, rfl⟩ := trodVars_none hV
  have k0 := h0
  have lt0 : ∀ x ∈ p0, x.block < W.heap.size := by obtain ⟨m, hm⟩ := k0; exact DataW.trod_lt m _ _ _ hm
  have hv0 := hval 0 38 v0 rfl rfl
  have k1 := h1
  have lt1 : ∀ x ∈ p1, x.block < W.heap.size := by obtain ⟨m, hm⟩ := k1; exact DataW.trod_lt m _ _ _ hm
  obtain ⟨a1, len1, cap1, rfl⟩ := okWide_slice Try.underlying33 (hval 1 33 v1 rfl rfl)
  obtain ⟨z1, w1⟩ : ∃ zs, IsRow .u8 W a1 len1 cap1 zs := by
    obtain ⟨fuel, hf⟩ := h1
    rcases open_ints Try.underlying33 Try.underlying5 (by kernel_rfl) hf with ⟨hcs, _⟩ | ⟨x, l, c, zs, hcs, _, hl, hm, hz, _, hcell, hwz⟩
    · simp [Value.cells] at hcs
      obtain ⟨rfl, rfl, rfl⟩ := hcs
      exact ⟨[], .inl ⟨rfl, rfl, rfl, rfl⟩⟩
    · simp [Value.cells] at hcs
      obtain ⟨rfl, rfl, rfl⟩ := hcs
      exact ⟨zs, .inr ⟨_, rfl, hl, hm, by simpa using hz, hcell, hwz⟩⟩
  clear hA0 hval0
  have hwalk : Calls Try.prog 6 #[v0, .slice a1 len1 cap1] W fun e w' => e = .returned (.bool true) ∧ Below W.heap.size W w' := by
    obtain ⟨A, n, c, xs, rfl, hx, hg, hnc, hcm⟩ := open_ents hv0 k0
    obtain ⟨l1, hr1, hb1, hlen1, hc1, hm1⟩ := rd_of_row w1
    by_cases h : (8 : Int) < (n : Int) ∨ (300 : Int) < (len1 : Int)
    · exact puts_long A n c a1 len1 cap1 W h
    · exact puts_walk A n c a1 len1 cap1 xs l1 W hx hg hr1 hb1 (by omega) (by omega)
  refine hwalk.mono fun e W' ⟨he, bel⟩ => ?_
  subst he
  exact ⟨_, rfl, _, _, _, [], _, [], hW', trodAll_mk1 (shut_bool Try.underlying4 _), (trodAll_cons_mk (Below.trod laidOut (by kernel_rfl) (of_decide_eq_true (by kernel_rfl)) k0 bel lt0) (trodAll_cons_mk (Below.trod laidOut (by kernel_rfl) (of_decide_eq_true (by kernel_rfl)) k1 bel lt1) trodAll_mk0)), rfl, bel.frame _, fun h => by cases h⟩

theorem over : Rows.keyPutsRow.holds Try.pinned (OpenSpec.ofChange Rows.keyPutsSpec) :=
  OpenClaim.holds_of_wide 6 Try.f6 rfl rfl rfl rfl rfl rfl rfl ⟨rfl, rfl, rfl, rfl, rfl⟩ rfl rfl rfl rfl rfl (by kernel_rfl) Try.func6 (by kernel_rfl)
    (of_decide_eq_true (by kernel_rfl)) (by unfold Func.isWrapper; first | (rw [if_pos (by decide +kernel)]; kernel_rfl) | (rw [if_neg (by decide +kernel)]; exact ⟨rfl, rfl⟩))
    (fun os started H enc _ => lifted os started H enc)

theorem proved : Rows.KeyPutsSaid := over
#print axioms proved
end Go.Proofs.Ytahbhaphodgomac.keyPuts
