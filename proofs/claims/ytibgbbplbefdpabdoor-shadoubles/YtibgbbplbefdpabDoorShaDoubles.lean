/- ShaDoubles returns true for every slice of bytes and every two digests: the digest of a digest, and of two, is the document's; no condition. -/
import Derived.Test.YtibgbbplbefdpabDoorRows
import Derived.Test.YtibgbbplbefdpabDoorTie
import Derived.Test.YtibgbbplbefdpabDoorCards
import Derived.Test.YtibgbbplbefdpabDoorLaid
import Derived.Test.YtibgbbplbefdpabDoorBuf
import Derived.Test.YtibgbbplbefdpabDoorStr
import Derived.Test.YtibgbbplbefdpabDoorOpw
import Derived.Test.YtibgbbplbefdpabDoorArr
import Derived.Test.YtibgbbplbefdpabDoorArrIn
import Derived.Test.YtibgbbplbefdpabDoorD1
import Derived.Test.YtibgbbplbefdpabDoorD2
import Derived.Test.YtibgbbplbefdpabDoorD3
import Derived.Test.YtibgbbplbefdpabDoorD4
import Derived.Test.YtibgbbplbefdpabDoorD5
import Derived.Test.YtibgbbplbefdpabDoorD6
import Derived.Test.YtibgbbplbefdpabDoorD7
import Derived.Test.YtibgbbplbefdpabDoorD8
import Derived.Test.YtibgbbplbefdpabDoorD9
import Derived.Test.YtibgbbplbefdpabDoorD10
import Derived.Test.YtibgbbplbefdpabDoorRM
import Derived.Test.YtibgbbplbefdpabDoorR1
import Derived.Test.YtibgbbplbefdpabDoorR2
import Derived.Test.YtibgbbplbefdpabDoorR3
import Derived.Test.YtibgbbplbefdpabDoorR4
import Derived.Test.YtibgbbplbefdpabDoorR5
import Derived.Test.YtibgbbplbefdpabDoorRL
import Derived.Test.YtibgbbplbefdpabDoorKeep
import Derived.Test.YtibgbbplbefdpabDoorRL4
import Derived.Test.YtibgbbplbefdpabDoorRL5
import Derived.Test.YtibgbbplbefdpabDoorRL6
import Derived.Test.YtibgbbplbefdpabDoorRL7
import Derived.Test.YtibgbbplbefdpabDoorRL3
import Derived.Test.YtibgbbplbefdpabDoorR6
import Derived.Test.YtibgbbplbefdpabDoorSumsW
import Derived.Test.YtibgbbplbefdpabDoorDblW
import Derived.WalkKit
import Derived.ProofKit
import Derived.OpenShut
import Derived.ShutString
import Derived.ChangeOld
import Derived.Below
namespace Go.Proofs.YtibgbbplbefdpabDoor.shaDoubles
open Go.ChangeShapes Go.WideShapes Go.ChangeAt Go.RowKit
open Go.ChangeMaps (open_string shut_string)
set_option linter.unusedVariables false
set_option linter.unusedSimpArgs false

theorem own : ownKnob Tryd.prog.godebug = none := by kernel_rfl
theorem laidOut : laidOutB Tryd.prog = true := by kernel_rfl

/-- WHAT THE WALK IS TOLD OF A SLICE OF INTEGERS THAT CAME IN: it is nil; or it leads to a row of 'cap' cells, the numbers 'zs' (the first 'len' are its elements, the rest its spare room), each fitting its kind. -/
def IsRow (k : IntKind) (w : World) (a : Option Addr) (len cap : Nat) (zs : List Int) : Prop :=
  (a = none ∧ len = 0 ∧ cap = 0 ∧ zs = []) ∨
  ∃ x, a = some x ∧ len ≤ cap ∧ cap ≤ maxLen ∧ zs.length = cap ∧ (∀ i, i < zs.length → w.cell? (x.add i) = some (.int k (zs.getD i 0))) ∧ ∀ n ∈ zs, (Lit.int k n).wf = true

theorem walk (a0 : Option Addr) (len0 cap0 : Nat) (z0 : List Int) (xs ys : List Nat) (w : World) (w0 : IsRow .u8 w a0 len0 cap0 z0) (hx : xs.length = 32) (hy : ys.length = 32) (hbx : ∀ c ∈ xs, c < 256) (hby : ∀ c ∈ ys, c < 256) (ht : TabAt w) :
    Calls Tryd.prog 4 #[.slice a0 len0 cap0, .agg (bys xs).toArray, .agg (bys ys).toArray] w fun e w' => e = .returned (.bool true) ∧ Below w.heap.size w w' := by
  obtain ⟨bs, hr, hb, hlen, hc, hm⟩ := rd_of_row w0
  by_cases h : (500 : Int) < len0
  · exact doubles_long a0 len0 cap0 xs ys w ht h
  · exact doubles_walk a0 len0 cap0 bs xs ys w hr hb hc hm hx hy hbx hby ht (by omega)

set_option maxRecDepth 100000 in
theorem lifted (os : Os) (started : os.Started) (H : Type) (enc : TypeId × Value → H) :
    ReturnsInHanded {} Tryd.checked os 4 .any (fun w args => (Rows.shaDoublesSpec.pre enc Tryd.prog Tryd.f4 [] false w args ∧ laidMetH Tryd.prog Rows.shaDoublesRow.laid w) ∧ sizedMet enc Tryd.prog Tryd.f4 (OpenSpec.ofChange Rows.shaDoublesSpec) false w args) (Rows.shaDoublesSpec.post enc Tryd.prog Tryd.f4 false true false false) := by
  refine returnsInHanded_of_change_and (C := Tryd.checked) (X := fun w _ => laidMetH Tryd.prog Rows.shaDoublesRow.laid w) (fun _ _ _ hh h => h.of_heap hh) own started (by kernel_rfl) Tryd.func4
    (ChangeSpec.witness_shaped (enc := enc) (C := Tryd.checked) (os := os) (X := fun w _ => laidMetH Tryd.prog Rows.shaDoublesRow.laid w) false (World.doorLaid Tryd.prog 400 os) #[.slice none 0 0, .agg ZH, .agg ZH] 8 rfl (World.shaped_of_RefB (by kernel_rfl) (by kernel_rfl)) (by kernel_rfl) (by kernel_rfl) (by kernel_rfl) (door_met os _)) ?_
  intro W base args ds gs before hval0 hW _ _ hL _
  have ht : TabAt W := tab_of_laid hL
  have hval : ∀ (j : Nat) t v, Tryd.f4.params[j]? = some t → args[j]? = some v → Value.okWide Tryd.prog W .any base t v := hval0
  have hW' := hW
  obtain ⟨p, q, hA0, hV, rfl, hfz, hnd⟩ := hW
  have hA : DataW.TrodAll enc Tryd.prog W 0 (fun _ => true) true Tryd.f4.params.toList args.toList ds p := hA0
  rw [Tryd.params4] at hA hval
  obtain ⟨v0, vs0, d0, ds0, p0, q0, hargs, rfl, rfl, h0, r0⟩ := trodAll_cons hA
  obtain ⟨v1, vs1, d1, ds1, p1, q1, hvs0, rfl, rfl, h1, r1⟩ := trodAll_cons r0
  obtain ⟨v2, vs2, d2, ds2, p2, q2, hvs1, rfl, rfl, h2, r2⟩ := trodAll_cons r1
  obtain ⟨rfl, rfl, rfl⟩ := trodAll_nil r2
  obtain rfl : args = #[v0, v1, v2] := by cases args; simp_all
  obtain ⟨rfl, rfl⟩ := trodVars_none hV
  obtain ⟨a0, len0, cap0, rfl⟩ := okWide_slice Tryd.underlying22 (hval 0 22 v0 rfl rfl)
  have k0 := h0
  have lt0 : ∀ x ∈ p0, x.block < W.heap.size := by obtain ⟨m, hm⟩ := k0; exact DataW.trod_lt m _ _ _ hm
  obtain ⟨z0, w0⟩ : ∃ zs, IsRow .u8 W a0 len0 cap0 zs := by
    obtain ⟨fuel, hf⟩ := h0
    rcases open_ints Tryd.underlying22 Tryd.underlying5 (by kernel_rfl) hf with ⟨hcs, _⟩ | ⟨x, l, c, zs, hcs, _, hl, hm, hz, _, hcell, hwz⟩
    · simp [Value.cells] at hcs
      obtain ⟨rfl, rfl, rfl⟩ := hcs
      exact ⟨[], .inl ⟨rfl, rfl, rfl, rfl⟩⟩
    · simp [Value.cells] at hcs
      obtain ⟨rfl, rfl, rfl⟩ := hcs
      exact ⟨zs, .inr ⟨_, rfl, hl, hm, by simpa using hz, hcell, hwz⟩⟩
  have k1 := h1
  have lt1 : ∀ x ∈ p1, x.block < W.heap.size := by obtain ⟨m, hm⟩ := k1; exact DataW.trod_lt m _ _ _ hm
  have k2 := h2
  have lt2 : ∀ x ∈ p2, x.block < W.heap.size := by obtain ⟨m, hm⟩ := k2; exact DataW.trod_lt m _ _ _ hm
  obtain ⟨xs, rfl, hx, hbx⟩ := open_bys_arr Tryd.underlying25 Tryd.underlying5 Tryd.cells5 Tryd.cells25 (hval 1 25 v1 rfl rfl) h1
  obtain ⟨ys, rfl, hy, hby⟩ := open_bys_arr Tryd.underlying25 Tryd.underlying5 Tryd.cells5 Tryd.cells25 (hval 2 25 v2 rfl rfl) h2
  clear hA0 hval0
  refine (walk a0 len0 cap0 z0 xs ys W w0 hx hy hbx hby ht).mono fun e W' ⟨he, bel⟩ => ?_
  subst he
  exact ⟨_, rfl, _, _, _, [], _, [], hW', trodAll_mk1 (shut_bool Tryd.underlying4 _), (trodAll_cons_mk (Below.trod laidOut (by kernel_rfl) (of_decide_eq_true (by kernel_rfl)) k0 bel lt0) (trodAll_cons_mk (Below.trod laidOut (by kernel_rfl) (of_decide_eq_true (by kernel_rfl)) k1 bel lt1) (trodAll_cons_mk (Below.trod laidOut (by kernel_rfl) (of_decide_eq_true (by kernel_rfl)) k2 bel lt2) trodAll_mk0))), rfl, bel.frame _, fun h => by cases h⟩

theorem over : Rows.shaDoublesRow.holds Tryd.pinned (OpenSpec.ofChange Rows.shaDoublesSpec) :=
  OpenClaim.holds_of_wide 4 Tryd.f4 rfl rfl rfl rfl rfl rfl rfl ⟨rfl, rfl, rfl, rfl, rfl⟩ rfl rfl rfl rfl rfl (by kernel_rfl) Tryd.func4 (by kernel_rfl)
    (of_decide_eq_true (by kernel_rfl)) (by unfold Func.isWrapper; first | (rw [if_pos (by decide +kernel)]; kernel_rfl) | (rw [if_neg (by decide +kernel)]; exact ⟨rfl, rfl⟩))
    (fun os started H enc _ => lifted os started H enc)

theorem row_holds : Rows.ShaDoublesSaid := over

theorem proved : Rows.ShaDoublesCardSaid :=
  Claim7.holds_tied_plain_at .later [] [.data] true (true, "71618f20f2208b404525e44c41991a149b50bb2064f34af66aa6ef9fbd525a83") false
    row_holds (fun _ h => by cases h) (by kernel_rfl) (fun _ h => by cases h) shaDoubles_row_tie rfl ⟨rfl, rfl⟩ (by kernel_rfl) rfl
    (fun f fn hf hfn => by
      obtain rfl : f = 4 := Option.some.inj ((show Tryd.prog.funcNamed Tryd.f4.name = some 4 by kernel_rfl).symm.trans hf) |>.symm
      obtain rfl : fn = Tryd.f4 := (Option.some.inj (Tryd.func4.symm.trans hfn)).symm
      exact ⟨by kernel_rfl, fun j t ht => by
        rw [Tryd.params4] at ht
        have hm : t ∈ [22, 25] := by have := Array.mem_of_getElem? ht; simp at this; simp [this]
        have hall : ([22, 25].all fun u => !Tryd.prog.wantsStandIn u) = true := by kernel_rfl
        exact (show Tryd.prog.wantsStandIn t = false by simpa using List.all_eq_true.1 hall t hm)⟩)
    (by kernel_rfl)
#print axioms proved
end Go.Proofs.YtibgbbplbefdpabDoor.shaDoubles
