/- BlockHeads answers true for every header, for whatever bytes behind it and every place, with no condition but that they can be read as data. -/
import Derived.Test.YtkokbpifjpmhlaaDoorRows
import Derived.Test.YtkokbpifjpmhlaaDoorTie
import Derived.Test.YtkokbpifjpmhlaaDoorCards
import Derived.Test.YtkokbpifjpmhlaaDoorLaid
import Derived.Test.YtkokbpifjpmhlaaDoorBuf
import Derived.Test.YtkokbpifjpmhlaaDoorStr
import Derived.Test.YtkokbpifjpmhlaaDoorOpw
import Derived.Test.YtkokbpifjpmhlaaDoorArr
import Derived.Test.YtkokbpifjpmhlaaDoorArrIn
import Derived.Test.YtkokbpifjpmhlaaDoorD1
import Derived.Test.YtkokbpifjpmhlaaDoorD2
import Derived.Test.YtkokbpifjpmhlaaDoorD3
import Derived.Test.YtkokbpifjpmhlaaDoorD4
import Derived.Test.YtkokbpifjpmhlaaDoorD5
import Derived.Test.YtkokbpifjpmhlaaDoorD6
import Derived.Test.YtkokbpifjpmhlaaDoorD7
import Derived.Test.YtkokbpifjpmhlaaDoorD8
import Derived.Test.YtkokbpifjpmhlaaDoorD9
import Derived.Test.YtkokbpifjpmhlaaDoorRowN
import Derived.Test.YtkokbpifjpmhlaaDoorOpenG
import Derived.Test.YtkokbpifjpmhlaaDoorB1
import Derived.Test.YtkokbpifjpmhlaaDoorHIn
import Derived.Test.YtkokbpifjpmhlaaDoorB2
import Derived.Test.YtkokbpifjpmhlaaDoorB3
import Derived.Test.YtkokbpifjpmhlaaDoorB4
import Derived.Test.YtkokbpifjpmhlaaDoorB5
import Derived.Test.YtkokbpifjpmhlaaDoorMath
import Derived.Test.YtkokbpifjpmhlaaDoorMath2
import Derived.Test.YtkokbpifjpmhlaaDoorNL
import Derived.Test.YtkokbpifjpmhlaaDoorHB
import Derived.Test.YtkokbpifjpmhlaaDoorHI
import Derived.Test.YtkokbpifjpmhlaaDoorHP
import Derived.Test.YtkokbpifjpmhlaaDoorHQ
import Derived.Test.YtkokbpifjpmhlaaDoorHR
import Derived.Test.YtkokbpifjpmhlaaDoorHS
import Derived.Test.YtkokbpifjpmhlaaDoorHW
import Derived.WalkKit
import Derived.ProofKit
import Derived.OpenShut
import Derived.ShutString
import Derived.ChangeOld
import Derived.Below
namespace Go.Proofs.YtkokbpifjpmhlaaDoor.blockHeads
open Go.ChangeShapes Go.WideShapes Go.ChangeAt Go.RowKit
open Go.ChangeMaps (open_string shut_string)
set_option linter.unusedVariables false
set_option linter.unusedSimpArgs false

theorem own : ownKnob Tryd.prog.godebug = none := by kernel_rfl
theorem laidOut : laidOutB Tryd.prog = true := by kernel_rfl

def IsRow (k : IntKind) (w : World) (a : Option Addr) (len cap : Nat) (zs : List Int) : Prop :=
  (a = none ∧ len = 0 ∧ cap = 0 ∧ zs = []) ∨
  ∃ x, a = some x ∧ len ≤ cap ∧ cap ≤ maxLen ∧ zs.length = cap ∧ (∀ i, i < zs.length → w.cell? (x.add i) = some (.int k (zs.getD i 0))) ∧ ∀ n ∈ zs, (Lit.int k n).wf = true

set_option maxRecDepth 100000 in
theorem lifted (os : Os) (started : os.Started) (H : Type) (enc : TypeId × Value → H) :
    ReturnsInHanded {} Tryd.checked os 3 .any (fun w args => (Rows.blockHeadsSpec.pre enc Tryd.prog Tryd.f3 [] false w args ∧ laidMetH Tryd.prog Rows.blockHeadsRow.laid w) ∧ sizedMet enc Tryd.prog Tryd.f3 (OpenSpec.ofChange Rows.blockHeadsSpec) false w args) (Rows.blockHeadsSpec.post enc Tryd.prog Tryd.f3 false true false false) := by
  refine returnsInHanded_of_change_and (C := Tryd.checked) (X := fun w _ => laidMetH Tryd.prog Rows.blockHeadsRow.laid w) (fun _ _ _ hh h => h.of_heap hh) own started (by kernel_rfl) Tryd.func3
    (ChangeSpec.witness_shaped (enc := enc) (C := Tryd.checked) (os := os) (X := fun w _ => laidMetH Tryd.prog Rows.blockHeadsRow.laid w) false (World.doorLaid Tryd.prog 400 os) #[(.agg (#[.int .i32 0] ++ Array.replicate 64 (.int .u8 0) ++ #[.int .u32 0, .int .u32 0, .int .u32 0])), .slice none 0 0, .int .i64 0] 8 rfl (World.shaped_of_RefB (by kernel_rfl) (by kernel_rfl)) (by kernel_rfl) (by kernel_rfl) (by kernel_rfl) (door_met os _)) ?_
  intro W base args ds gs before hval0 hW _ _ hL _
  have ht : TabAt W := tab_of_laid hL
  have hval : ∀ (j : Nat) t v, Tryd.f3.params[j]? = some t → args[j]? = some v → Value.okWide Tryd.prog W .any base t v := hval0
  have hW' := hW
  obtain ⟨p, q, hA0, hV, rfl, hfz, hnd⟩ := hW
  have hA : DataW.TrodAll enc Tryd.prog W 0 (fun _ => true) true Tryd.f3.params.toList args.toList ds p := hA0
  rw [Tryd.params3] at hA hval
  obtain ⟨v0, vs0, d0, ds0, p0, q0, hargs, rfl, rfl, h0, r0⟩ := trodAll_cons hA
  obtain ⟨v1, vs1, d1, ds1, p1, q1, rfl, rfl, rfl, h1, r1⟩ := trodAll_cons r0
  obtain ⟨v2, vs2, d2, ds2, p2, q2, rfl, rfl, rfl, h2, r2⟩ := trodAll_cons r1
  obtain ⟨rfl, rfl, rfl⟩ := trodAll_nil r2
  obtain rfl : args = #[v0, v1, v2] := by cases args; simp_all
  obtain ⟨rfl, rfl⟩ := trodVars_none hV
  have k0 := h0
  have lt0 : ∀ x ∈ p0, x.block < W.heap.size := by obtain ⟨m, hm⟩ := k0; exact DataW.trod_lt m _ _ _ hm
  obtain ⟨hv0, hp0, hq0, ht0, hb0, hn0, rfl, w0⟩ := open_hd (hval 0 26 v0 rfl rfl) h0
  have k1 := h1
  have lt1 : ∀ x ∈ p1, x.block < W.heap.size := by obtain ⟨m, hm⟩ := k1; exact DataW.trod_lt m _ _ _ hm
  obtain ⟨a1, len1, cap1, rfl⟩ := okWide_slice Tryd.underlying27 (hval 1 27 v1 rfl rfl)
  obtain ⟨z1, w1⟩ : ∃ zs, IsRow .u8 W a1 len1 cap1 zs := by
    obtain ⟨fuel, hf⟩ := h1
    rcases open_ints Tryd.underlying27 Tryd.underlying5 (by kernel_rfl) hf with ⟨hcs, _⟩ | ⟨x, l, c, zs, hcs, _, hl, hm, hz, _, hcell, hwz⟩
    · simp [Value.cells] at hcs
      obtain ⟨rfl, rfl, rfl⟩ := hcs
      exact ⟨[], .inl ⟨rfl, rfl, rfl, rfl⟩⟩
    · simp [Value.cells] at hcs
      obtain ⟨rfl, rfl, rfl⟩ := hcs
      exact ⟨zs, .inr ⟨_, rfl, hl, hm, by simpa using hz, hcell, hwz⟩⟩
  have k2 := h2
  have lt2 : ∀ x ∈ p2, x.block < W.heap.size := by obtain ⟨m, hm⟩ := k2; exact DataW.trod_lt m _ _ _ hm
  obtain ⟨a2, rfl, _, _, w2⟩ := open_int Tryd.underlying3 (hval 2 3 v2 rfl rfl) h2
  clear hA0 hval0
  have hwalk : Calls Tryd.prog 3 #[.agg (hdC hv0 hp0 hq0 ht0 hb0 hn0).toArray, .slice a1 len1 cap1, .int .i64 a2] W fun e w' => e = .returned (.bool true) ∧ Below W.heap.size W w' := by
    obtain ⟨bs, hr, hb, hlen, hc, hm⟩ := rd_of_row w1
    by_cases h : (100 : Int) < len1
    · exact heads_long _ a1 len1 cap1 a2 W (fun W' hb' => ht.below hb' ht.1) h ⟨_, rfl⟩
    · exact heads_walk hv0 hp0 hq0 ht0 hb0 hn0 a1 len1 cap1 bs a2 W w0 hr hb ht (by omega)
  refine hwalk.mono fun e W' ⟨he, bel⟩ => ?_
  subst he
  exact ⟨_, rfl, _, _, _, [], _, [], hW', trodAll_mk1 (shut_bool Tryd.underlying4 _), (trodAll_cons_mk (Below.trod laidOut (by kernel_rfl) (of_decide_eq_true (by kernel_rfl)) k0 bel lt0) (trodAll_cons_mk (Below.trod laidOut (by kernel_rfl) (of_decide_eq_true (by kernel_rfl)) k1 bel lt1) (trodAll_cons_mk (Below.trod laidOut (by kernel_rfl) (of_decide_eq_true (by kernel_rfl)) k2 bel lt2) trodAll_mk0))), rfl, bel.frame _, fun h => by cases h⟩

theorem over : Rows.blockHeadsRow.holds Tryd.pinned (OpenSpec.ofChange Rows.blockHeadsSpec) :=
  OpenClaim.holds_of_wide 3 Tryd.f3 rfl rfl rfl rfl rfl rfl rfl ⟨rfl, rfl, rfl, rfl, rfl⟩ rfl rfl rfl rfl rfl (by kernel_rfl) Tryd.func3 (by kernel_rfl)
    (of_decide_eq_true (by kernel_rfl)) (by unfold Func.isWrapper; first | (rw [if_pos (by decide +kernel)]; kernel_rfl) | (rw [if_neg (by decide +kernel)]; exact ⟨rfl, rfl⟩))
    (fun os started H enc _ => lifted os started H enc)

theorem row_holds : Rows.BlockHeadsSaid := over

theorem proved : Rows.BlockHeadsCardSaid :=
  Claim7.holds_tied_plain_at .later [] [.data] true (true, "da9469f89faca3556aacb4a38d6e311ab47fc0aaad709862effdec5a9a1f41d1") false
    row_holds (fun _ h => by cases h) (by kernel_rfl) (fun _ h => by cases h) blockHeads_row_tie rfl ⟨rfl, rfl⟩ (by kernel_rfl) rfl
    (fun f fn hf hfn => by
      obtain rfl : f = 3 := Option.some.inj ((show Tryd.prog.funcNamed Tryd.f3.name = some 3 by kernel_rfl).symm.trans hf) |>.symm
      obtain rfl : fn = Tryd.f3 := (Option.some.inj (Tryd.func3.symm.trans hfn)).symm
      exact ⟨by kernel_rfl, fun j t ht => by
        rw [Tryd.params3] at ht
        have hm : t ∈ [26, 27, 3] := by have := Array.mem_of_getElem? ht; simp at this; simp [this]
        have hall : ([26, 27, 3].all fun u => !Tryd.prog.wantsStandIn u) = true := by kernel_rfl
        exact (show Tryd.prog.wantsStandIn t = false by simpa using List.all_eq_true.1 hall t hm)⟩)
    (by kernel_rfl)
#print axioms proved
end Go.Proofs.YtkokbpifjpmhlaaDoor.blockHeads
