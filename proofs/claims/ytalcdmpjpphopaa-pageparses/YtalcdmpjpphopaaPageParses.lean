/- PageParses answers true for all bytes, and never panics: bytes are a page just where what is read of them is made just so; other bytes are no page and hold nothing; more than 1000 bytes are passed by by the law itself. -/
import Derived.Test.YtalcdmpjpphopaaRows
import Derived.Test.YtalcdmpjpphopaaMath
import Derived.Test.YtalcdmpjpphopaaBuf
import Derived.Test.YtalcdmpjpphopaaNW1
import Derived.Test.YtalcdmpjpphopaaNW2
import Derived.Test.YtalcdmpjpphopaaNW3
import Derived.Test.YtalcdmpjpphopaaStr
import Derived.Test.YtalcdmpjpphopaaMath2
import Derived.Test.YtalcdmpjpphopaaNW5
import Derived.Test.YtalcdmpjpphopaaOpw
import Derived.Test.YtalcdmpjpphopaaApp
import Derived.Test.YtalcdmpjpphopaaP0
import Derived.Test.YtalcdmpjpphopaaAppS
import Derived.Test.YtalcdmpjpphopaaConv
import Derived.Test.YtalcdmpjpphopaaArr
import Derived.Test.YtalcdmpjpphopaaArrIn
import Derived.Test.YtalcdmpjpphopaaRowN
import Derived.Test.YtalcdmpjpphopaaOpenG
import Derived.Test.YtalcdmpjpphopaaP1
import Derived.Test.YtalcdmpjpphopaaP2
import Derived.Test.YtalcdmpjpphopaaP3
import Derived.Test.YtalcdmpjpphopaaTch
import Derived.Test.YtalcdmpjpphopaaP4
import Derived.Test.YtalcdmpjpphopaaP5
import Derived.Test.YtalcdmpjpphopaaP6
import Derived.Test.YtalcdmpjpphopaaP7
import Derived.Test.YtalcdmpjpphopaaArm
import Derived.Test.YtalcdmpjpphopaaP8
import Derived.Test.YtalcdmpjpphopaaP9
import Derived.Test.YtalcdmpjpphopaaPA
import Derived.Test.YtalcdmpjpphopaaPB
import Derived.WalkKit
import Derived.ProofKit
import Derived.OpenShut
import Derived.ShutString
import Derived.ChangeOld
import Derived.Below
namespace Go.Proofs.Ytalcdmpjpphopaa.pageParses
open Go.ChangeShapes Go.WideShapes Go.ChangeAt Go.RowKit
open Go.ChangeMaps (open_string shut_string)
set_option linter.unusedVariables false
set_option linter.unusedSimpArgs false

theorem own : ownKnob Try.prog.godebug = none := by kernel_rfl
theorem laidOut : laidOutB Try.prog = true := by kernel_rfl

def IsRow (k : IntKind) (w : World) (a : Option Addr) (len cap : Nat) (zs : List Int) : Prop :=
  (a = none ∧ len = 0 ∧ cap = 0 ∧ zs = []) ∨
  ∃ x, a = some x ∧ len ≤ cap ∧ cap ≤ maxLen ∧ zs.length = cap ∧ (∀ i, i < zs.length → w.cell? (x.add i) = some (.int k (zs.getD i 0))) ∧ ∀ n ∈ zs, (Lit.int k n).wf = true

set_option maxRecDepth 100000 in
theorem lifted (os : Os) (started : os.Started) (H : Type) (enc : TypeId × Value → H) :
    ReturnsInHanded {} Try.checked os 4 .any (Rows.pageParsesSpec.pre6 enc Try.prog Try.f4 Rows.pageParsesRow.domain false) (Rows.pageParsesSpec.post enc Try.prog Try.f4 false true false false) := by
  refine returnsInHanded_of_change (C := Try.checked) own started (by kernel_rfl) Try.func4
    (ChangeSpec.witness6 (enc := enc) (C := Try.checked) false ⟨#[], #[.slice none 0 0], []⟩ 8 (by kernel_rfl) (by kernel_rfl) (by kernel_rfl) (by kernel_rfl)) ?_
  intro W base args ds gs before hval0 hW hcnd _
  have hval : ∀ (j : Nat) t v, Try.f4.params[j]? = some t → args[j]? = some v → Value.okWide Try.prog W .any base t v := hval0
  have hW' := hW
  obtain ⟨p, q, hA0, hV, rfl, hfz, hnd⟩ := hW
  have hA : DataW.TrodAll enc Try.prog W 0 (fun _ => true) true Try.f4.params.toList args.toList ds p := hA0
  rw [Try.params4] at hA hval
  obtain ⟨v0, vs0, d0, ds0, p0, q0, hargs, rfl, rfl, h0, r0⟩ := trodAll_cons hA
  obtain ⟨rfl, rfl, rfl⟩ := trodAll_nil r0
  obtain rfl : args = #[v0] := by cases args; simp_all
  obtain ⟨rfl, rfl⟩ := trodVars_none hV
  have k0 := h0
  have lt0 : ∀ x ∈ p0, x.block < W.heap.size := by obtain ⟨m, hm⟩ := k0; exact DataW.trod_lt m _ _ _ hm
  obtain ⟨a0, len0, cap0, rfl⟩ := okWide_slice Try.underlying25 (hval 0 25 v0 rfl rfl)
  obtain ⟨z0, w0⟩ : ∃ zs, IsRow .u8 W a0 len0 cap0 zs := by
    obtain ⟨fuel, hf⟩ := h0
    rcases open_ints Try.underlying25 Try.underlying5 (by kernel_rfl) hf with ⟨hcs, _⟩ | ⟨x, l, c, zs, hcs, _, hl, hm, hz, _, hcell, hwz⟩
    · simp [Value.cells] at hcs
      obtain ⟨rfl, rfl, rfl⟩ := hcs
      exact ⟨[], .inl ⟨rfl, rfl, rfl, rfl⟩⟩
    · simp [Value.cells] at hcs
      obtain ⟨rfl, rfl, rfl⟩ := hcs
      exact ⟨zs, .inr ⟨_, rfl, hl, hm, by simpa using hz, hcell, hwz⟩⟩
  clear hA0 hval0
  have hwalk : Calls Try.prog 4 #[.slice a0 len0 cap0] W fun e w' => e = .returned (.bool true) ∧ Below W.heap.size W w' := by
    obtain ⟨bs, hrd, hbs, hbl, hc1, hc2⟩ := rd_of_row w0
    exact parses_walk a0 len0 cap0 bs W hrd hbs hc1 hc2
  refine hwalk.mono fun e W' ⟨he, bel⟩ => ?_
  subst he
  exact ⟨_, rfl, _, _, _, [], _, [], hW', trodAll_mk1 (shut_bool Try.underlying4 _), (trodAll_cons_mk (Below.trod laidOut (by kernel_rfl) (of_decide_eq_true (by kernel_rfl)) k0 bel lt0) trodAll_mk0), rfl, bel.frame _, fun h => by cases h⟩

theorem over : Rows.pageParsesRow.holds Try.pinned (OpenSpec.ofChange Rows.pageParsesSpec) :=
  OpenClaim.holds_of_wide 4 Try.f4 rfl rfl rfl rfl rfl rfl rfl ⟨rfl, rfl, rfl, rfl, rfl⟩ rfl rfl rfl rfl rfl (by kernel_rfl) Try.func4 (by kernel_rfl)
    (of_decide_eq_true (by kernel_rfl)) (by unfold Func.isWrapper; first | (rw [if_pos (by decide +kernel)]; kernel_rfl) | (rw [if_neg (by decide +kernel)]; exact ⟨rfl, rfl⟩))
    (fun os started H enc _ => lifted os started H enc)

theorem proved : Rows.PageParsesSaid := over
#print axioms proved
end Go.Proofs.Ytalcdmpjpphopaa.pageParses
