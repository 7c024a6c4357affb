/- Walks: sha.Text. -/
import Derived.Test.YtibgbbplbefdpabRows
import Derived.Test.YtibgbbplbefdpabOpw
import Derived.WalkKit
import Derived.WalkSpells
import Derived.WalkLawsBesides
import Derived.Deep.LoopGhost
import Derived.Lib.Hide
import Derived.Deep.QuietTactic
import Derived.BigQuiet
import Derived.Deep.RegionWith
import Derived.Deep.RegionHeld3
namespace Go.Proofs.Ytibgbbplbefdpab
set_option linter.unusedSimpArgs false
set_option linter.unusedVariables false
open Go.RowKit

theorem Try.info5 : (Try.prog.info? 5).map (fun i => (i.zero, i.size, i.bytes)) = some (some (.int .u8 0), 1, 1) := by kernel_rfl

/-- The signs of a digest. -/
def hx (n : Nat) : Nat := if n < 10 then 48 + n else 87 + n
def two (c : Nat) : List Nat := [hx (c / 16), hx (c % 16)]
def txt (hs : List Nat) : List Nat := hs.reverse.flatMap two

theorem make64 {i0 : TypeInfo} (hi : Try.prog.info? 5 = some i0) (hz0 : i0.zero = some (.int .u8 0)) (hz1 : i0.size = 1) (hz2 : i0.bytes = 1) :
    ∃ MC : Array Value, MC.size = 64 ∧ ∀ w, (Instr.makeSlice 31 (.int .i64 0) (.int .i64 64)).run Try.prog w = .ok (.slice (some ⟨w.heap.size, 0, none⟩) 0 64) (w.alloc (.cells MC 5)) := by
  refine ⟨madeCells (Value.int .u8 0).cells (64 * 1), size_madeCells _ _, fun w => ?_⟩
  have := run_makeSlice (P := Try.prog) w 31 5 i0 (.int .u8 0) Try.underlying31 hi hz0 .i64 .i64 0 64 (by decide) (by decide) (by rw [hz1]; decide) (by rw [hz2]; decide) (by decide)
  rw [hz1] at this
  exact this

theorem hx_lt (n : Nat) (h : n < 16) : hx n < 256 := by unfold hx; split <;> omega
theorem idx_hex (y : Int) (n : Nat) (hy : y = n) (hn : n < 16) (w : World) (E : Result Value) (f : Value → World → Result Next) :
    ((if h : 0 ≤ y ∧ y < 16 then Result.ok (Value.int .u8 ↑((({ data := #[48, 49, 50, 51, 52, 53, 54, 55, 56, 57, 97, 98, 99, 100, 101, 102] } : ByteArray)[y.toNat]'(by show y.toNat < 16; omega)).toNat)) w else E).andThen f) = f (.int .u8 ((hx n : Nat) : Int)) w := by
  subst hy
  rw [dif_pos ⟨by omega, by omega⟩]
  simp only [Result.andThen, Int.toNat_natCast]
  have : ∀ k : Fin 16, ((({ data := #[48, 49, 50, 51, 52, 53, 54, 55, 56, 57, 97, 98, 99, 100, 101, 102] } : ByteArray)[k.val]'(k.isLt)).toNat) = hx k.val := by decide
  have h := this ⟨n, hn⟩
  simp only at h
  rw [h]
theorem and15 (c : Nat) (h : c < 256) : bits BinOp.and IntKind.u8 (c : Int) 15 = ((c % 16 : Nat) : Int) := by
  rw [u8_and _ _ (by omega) (by omega) (by omega) (by omega)]
  rw [Int.toNat_natCast, show (15 : Int).toNat = 2 ^ 4 - 1 from rfl, Nat.and_two_pow_sub_one_eq_mod]

theorem txt_step (hs : List Nat) (hl : hs.length = 32) (j : Nat) (hj : j < 32) : (hs.reverse.take (j + 1)).flatMap two = (hs.reverse.take j).flatMap two ++ two (hs.getD (31 - j) 0) := by
  rw [List.take_succ_eq_append_getElem (by simp; omega), List.flatMap_append]
  simp [List.getElem_reverse, hl, List.getD]
  rw [List.getElem?_eq_getElem (by omega)]
  have : 32 - 1 - j = 31 - j := by omega
  simp [this]

set_option maxHeartbeats 1000000 in
set_option maxRecDepth 100000 in
theorem text_any (hs : List Nat) (hl : hs.length = 32) (hb : ∀ c ∈ hs, c < 256) (w : World) :
    Calls Try.prog 5 #[.agg (bys hs).toArray] w fun e w' => e = .returned (.string (strB (txt hs))) ∧ Below w.heap.size w w' := by
  obtain ⟨i0, hi, hz0, hz1, hz2⟩ := info_parts Try.info5
  have HL := Lib.hid hl
  clear hl
  obtain ⟨MC, hMC, hmk⟩ := make64 hi hz0 hz1 hz2
  go_enter Try.func5, Try.ntmps5
  go_wp2
  clear hmk
  have HMC := Lib.hid hMC
  clear hMC
  have hbs : Below (w.heap.size + 1) (w.alloc (.cells (bys hs).toArray 23)) ((w.alloc (.cells (bys hs).toArray 23)).alloc (.cells MC 5)) := (Below.refl _ _).alloc (by simp) _
  have hown : Buf ((w.alloc (.cells (bys hs).toArray 23)).alloc (.cells MC 5)) (w.heap.size + 1) (.slice (some ⟨w.heap.size + 1, 0, none⟩) 0 64) 0 [] := by
    have := World.ownsRow_made (w.alloc (.cells (bys hs).toArray 23)) (base := w.heap.size + 1) (e := 5) (size := 1) MC 64 (by simp) (by unfold maxLen; omega) (by rw [HMC.out])
    simpa using Buf.of_own this
  go_loopg [3, 7] 32 (fun k d i wr => ∃ j, k = 32 - j ∧ j ≤ 32 ∧ i = .int .i64 j ∧ Below (w.heap.size + 1) (w.alloc (.cells (bys hs).toArray 23)) wr ∧ Buf wr (w.heap.size + 1) d (2 * j) (bys ((hs.reverse.take j).flatMap two)))
  case atStart => exact ⟨0, rfl, Nat.zero_le _, rfl, hbs, hown⟩
  case round =>
    obtain ⟨j, hk, hj, rfl, hbw, hbuf⟩ := hrel
    have hK := Lib.hid hk
    clear hk
    have hws : w.heap.size + 1 ≤ wr.heap.size := by have := hbw.size; simp at this; omega
    by_cases hlt : j < 32
    · have hlt' : (j : Int) < 32 := by omega
      have hcell : wr.cell? ⟨w.heap.size, 31 - j, none⟩ = some (.int .u8 ((hs.getD (31 - j) 0 : Nat) : Int)) := by
        rw [hbw.cell (p := ⟨w.heap.size, 31 - j, none⟩) (by simp)]
        exact cell_boxed w (bys hs) 23 (31 - j) _ (bys_get hs (31 - j) (by rw [HL.out]; omega))
      have hS := Lib.hid (txt_step hs HL.out j hlt)
      have hcb := getD_lt hb (31 - j)
      generalize hs.getD (31 - j) 0 = c at *
      have hand := and15 c hcb
      go_wp2
      refine wp_region_noPanic ?_
      refine wp_region_held_drew (S := (fun _ => True)) (by kernel_rfl) (trivial) (fun hHeld => ?_)
      refine wpAnyH_take (i := 0) (v := ?_) (by simp only [List.getElem?_toArray, List.getElem?_cons_succ, List.getElem?_cons_zero]; rfl) (by kernel_rfl) (by kernel_rfl) (by kernel_rfl) (fun _ _ _ h => h) (Or.inl ⟨by rfl, ?_⟩) (by assumption) ?_
      rotate_left
      · (intro w hSw; (try dsimp only at hSw); go_simp; (try with_reducible rfl))
      (try simp only [Act.put, List.setIfInBounds_toArray, List.set_cons_zero, List.set_cons_succ])
      refine wpAnyH_take (i := 1) (v := ?_) (by simp only [List.getElem?_toArray, List.getElem?_cons_succ, List.getElem?_cons_zero]; rfl) (by kernel_rfl) (by kernel_rfl) (by kernel_rfl) (fun _ _ _ h => h) (Or.inl ⟨by rfl, ?_⟩) (by assumption) ?_
      rotate_left
      · (intro w hSw; (try dsimp only at hSw); go_simp; (try with_reducible rfl))
      (try simp only [Act.put, List.setIfInBounds_toArray, List.set_cons_zero, List.set_cons_succ])
      refine wpAnyH_take (i := 2) (v := ?_) (by simp only [List.getElem?_toArray, List.getElem?_cons_succ, List.getElem?_cons_zero]; rfl) (by kernel_rfl) (by kernel_rfl) (by kernel_rfl) (fun _ _ _ h => h) (Or.inl ⟨by rfl, ?_⟩) (by assumption) ?_
      rotate_left
      · (intro w hSw; (try dsimp only at hSw); go_simp; (try with_reducible rfl))
      (try simp only [Act.put, List.setIfInBounds_toArray, List.set_cons_zero, List.set_cons_succ])
      refine wpAnyH_take (i := 3) (v := .int .u8 ((hx (c / 16) : Nat) : Int)) (by simp only [List.getElem?_toArray, List.getElem?_cons_succ, List.getElem?_cons_zero]; rfl) (by kernel_rfl) (by kernel_rfl) (by kernel_rfl) (fun _ _ _ h => h) (Or.inl ⟨by rfl, ?_⟩) (by assumption) ?_
      · (intro w hSw; (try dsimp only at hSw); go_simp; exact idx_hex _ (c / 16) (by omega) (by omega) _ _ _)
      (try simp only [Act.put, List.setIfInBounds_toArray, List.set_cons_zero, List.set_cons_succ])
      refine wpAnyH_take (i := 4) (v := ?_) (by simp only [List.getElem?_toArray, List.getElem?_cons_succ, List.getElem?_cons_zero]; rfl) (by kernel_rfl) (by kernel_rfl) (by kernel_rfl) (fun _ _ _ h => h) (Or.inl ⟨by rfl, ?_⟩) (by assumption) ?_
      rotate_left
      · (intro w hSw; (try dsimp only at hSw); go_simp; (try with_reducible rfl))
      (try simp only [Act.put, List.setIfInBounds_toArray, List.set_cons_zero, List.set_cons_succ])
      refine wpAnyH_take (i := 5) (v := ?_) (by simp only [List.getElem?_toArray, List.getElem?_cons_succ, List.getElem?_cons_zero]; rfl) (by kernel_rfl) (by kernel_rfl) (by kernel_rfl) (fun _ _ _ h => h) (Or.inl ⟨by rfl, ?_⟩) (by assumption) ?_
      rotate_left
      · (intro w hSw; (try dsimp only at hSw); go_simp; (try with_reducible rfl))
      (try simp only [Act.put, List.setIfInBounds_toArray, List.set_cons_zero, List.set_cons_succ])
      refine wpAnyH_take (i := 6) (v := .int .u8 ((hx (c % 16) : Nat) : Int)) (by simp only [List.getElem?_toArray, List.getElem?_cons_succ, List.getElem?_cons_zero]; rfl) (by kernel_rfl) (by kernel_rfl) (by kernel_rfl) (fun _ _ _ h => h) (Or.inl ⟨by rfl, ?_⟩) (by assumption) ?_
      · (intro w hSw; (try dsimp only at hSw); go_simp; exact idx_hex _ (c % 16) (by omega) (by omega) _ _ _)
      (try simp only [Act.put, List.setIfInBounds_toArray, List.set_cons_zero, List.set_cons_succ])
      refine wpAnyH_ready (rs := [7]) (by kernel_rfl) (by simp) ?_
      refine AllReadyH.cons (by simp only [List.getElem?_toArray, List.getElem?_cons_succ, List.getElem?_cons_zero]; rfl) (fun K hK => ?_) AllReadyH.nil
      go_simp

      refine hK.out _ _ ?_ (fun hHeld => ?_)
      · trivial
      clear hK K
      (try simp only [Act.put, List.setIfInBounds_toArray, List.set_cons_zero, List.set_cons_succ])
      refine wpAnyH_ready (rs := [8]) (by kernel_rfl) (by simp) ?_
      refine AllReadyH.cons (by simp only [List.getElem?_toArray, List.getElem?_cons_succ, List.getElem?_cons_zero]; rfl) (fun K hK => ?_) AllReadyH.nil
      refine operwp_append_lit_drew (w := wr) (v := u3) (n := 2 * j) (xs := bys ((hs.reverse.take j).flatMap two)) (C := #[.int .u8 ((hx (c / 16) : Nat) : Int), .int .u8 ((hx (c % 16) : Nat) : Int)]) (m := 2) ?_ (.tmp 14) (.tmp 21) 31 rfl (w.heap.size + 1) 5 i0 (.int .u8 0) 1 Try.underlying31 hi hz0 hz1 hz2 rfl ?_ hbuf rfl ?_ ?_ ?_ ?_ ?_ ?_
      · kernel_rfl
      · rfl
      · rfl
      · intro u hu; simp at hu; rcases hu with rfl | rfl <;> rfl
      · unfold maxLen; omega
      · omega
      · exact hws
      intro p_v p_w r1 r2 r3
      refine hK.out _ _ ?_ (fun hHeld => ?_)
      · trivial
      clear hK K
      (try simp only [Act.put, List.setIfInBounds_toArray, List.set_cons_zero, List.set_cons_succ])
      refine wpAnyH_take (i := 9) (v := ?_) (by simp only [List.getElem?_toArray, List.getElem?_cons_succ, List.getElem?_cons_zero]; rfl) (by kernel_rfl) (by kernel_rfl) (by kernel_rfl) (fun _ _ _ h => h) (Or.inl ⟨by rfl, ?_⟩) (by assumption) ?_
      rotate_left
      · (intro w hSw; (try dsimp only at hSw); go_simp; (try with_reducible rfl))
      (try simp only [Act.put, List.setIfInBounds_toArray, List.set_cons_zero, List.set_cons_succ])
      refine wpAnyH_done (by kernel_rfl) ?_ _
      refine NoPanic.normal ?_
      have hl2 : Laid wr (w.heap.size + 1) u3 p_w p_v (2 * j + 2) _ := ⟨r1, r2, r3⟩
      have hb2 := hl2.below hbuf hws
      clear r1 r2 r3
      go_wp2
      go_roundg (32 - (j + 1))
      case measure => have := hK.out; omega
      case rel =>
        refine ⟨j + 1, rfl, by omega, by go_num, hbw.trans hb2, ?_⟩
        rw [hS.out, bys_app]
        exact hl2.buf
    · obtain rfl : j = 32 := by omega
      obtain ⟨A, cp, rfl, hcp, hrd⟩ := hbuf.slice
      have hcv := fun (wx : World) (h : Rd wx wr.heap.size A (2 * 32) (bys ((hs.reverse.take 32).flatMap two))) => run_conv (P := Try.prog) cp h 31 9 5 Try.underlying31 Try.underlying5 Try.underlying9
      have hcv1 := hcv wr hrd
      have hfin := Lib.hid (show (hs.reverse.take 32).flatMap two = txt hs by rw [List.take_of_length_le (by simp [HL.out])]; rfl)
      generalize (hs.reverse.take 32).flatMap two = tt at *
      have hdec : decide (((32 : Nat) : Int) < 32) = false := by decide
      clear hcv
      go_wp2
      go_ret
      exact ⟨by rw [hfin.out]; rfl, (Below.refl _ _).alloc (Nat.le_refl _) _ |>.trans (hbw.mono (by omega))⟩
end Go.Proofs.Ytibgbbplbefdpab
