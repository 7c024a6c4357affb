/- Walks: fold. -/
import Derived.Test.YtkokbpifjpmhlaaDoorD4
namespace Go.Proofs.YtkokbpifjpmhlaaDoor
set_option linter.unusedSimpArgs false
set_option linter.unusedVariables false
open Go.RowKit

def fld (K s : List Int) (bs : List Nat) : Nat → List Int
  | 0 => s
  | i + 1 => cmp K (fld K s bs i) ((bs.drop (64 * i)).take 64)
theorem fld_len (K s : List Int) (bs : List Nat) (h : s.length = 8) (i : Nat) : (fld K s bs i).length = 8 := by
  cases i with
  | zero => exact h
  | succ i => exact cmp_len _ _ _
theorem fld_w (K s : List Int) (bs : List Nat) (h : ∀ x ∈ s, W32 x) (i : Nat) : ∀ x ∈ fld K s bs i, W32 x := by
  induction i with
  | zero => exact h
  | succ i ih => exact cmp_w _ _ _ ih

theorem Tryd.info5 : (Tryd.prog.info? 5).map (fun i => (i.zero, i.size, i.bytes)) = some (some (.int .u8 0), 1, 1) := by kernel_rfl
/-- The state of fold. -/
structure FS (w wr : World) (T : List Int) : Prop where
  box : Blk wr w.heap.size 63 (us T).toArray
  res : Blk wr (w.heap.size + 1) 63 Z8
  below : Below w.heap.size w wr

set_option maxHeartbeats 1000000 in
set_option maxRecDepth 100000 in
theorem fold_any (A : Option Addr) (n c : Nat) (bs : List Nat) (s : List Int) (w : World) (hr : Rd w w.heap.size A n (bys bs)) (hb : ∀ c ∈ bs, c < 256) (hn : (n : Int) ≤ 1000000000) (hc : n ≤ c) (hcm : (c : Int) ≤ 9223372036854775807) (hs : s.length = 8) (hw : ∀ x ∈ s, W32 x) (ht : TabAt w) :
    Calls Tryd.prog 27 #[.agg (us s).toArray, .slice A n c] w fun e w' => e = .returned (.agg (us (fld K0 s bs (n / 64))).toArray) ∧ Below w.heap.size w w' := by
  obtain ⟨i0, hi5, hz0, hz1, hz2⟩ := info_parts Tryd.info5
  have hlen : bs.length = n := by have := hr.1; rwa [bys_len] at this
  have HLEN := Lib.hid hlen
  have HS := Lib.hid hs
  have HB := Lib.hid hb
  have HW := Lib.hid hw
  have HTab := Lib.hid ht
  have hF : FS w ((w.alloc (.cells (us s).toArray 63)).alloc (.cells Z8 63)) s :=
    ⟨heap_alloc2_old w _ _, heap_alloc2_new w _ _, ((Below.refl _ _).alloc (Nat.le_refl _) _).alloc (by simp) _⟩
  have hq : (n : Int) / 64 = ((n / 64 : Nat) : Int) := by omega
  have HQ := Lib.hid hq
  obtain ⟨q, hqq⟩ : ∃ q, q = n / 64 := ⟨_, rfl⟩
  rw [← hqq]
  have h64 : 64 * q ≤ n := by omega
  have hn64 : n ≤ 64 * q + 63 := by omega
  have hq2 : (n : Int) / 64 = (q : Int) := by omega
  have HQ2 := Lib.hid hq2
  clear hq hqq hs hb hw ht hlen hq2
  go_enter Tryd.func27, Tryd.ntmps27
  go_wp2_with (refine wpList_of_wp rfl fun K hK => wp_alloc_arr 63 rfl Z8 Tryd.zero63 (hK _ _ ?_); (try simp only [World.size_alloc]))
  rw [HQ2.out]
  go_loopg [9] q (fun k v wr => ∃ j, k = q - j ∧ j ≤ q ∧ v = .int .i64 j ∧ FS w wr (fld K0 s bs j))
  case atStart => exact ⟨0, rfl, Nat.zero_le _, rfl, hF⟩
  case round =>
    clear hF
    obtain ⟨j, hk, hj, rfl, hF⟩ := hrel
    have hM := Lib.hid hk
    clear hk
    by_cases hlt : j < q
    · have hlt' : (j : Int) < (q : Int) := by omega
      have hTw := fld_w K0 s bs HW.out j
      have hTl := fld_len K0 s bs HS.out j
      have hnx := Lib.hid (show fld K0 s bs (j + 1) = cmp K0 (fld K0 s bs j) ((bs.drop (64 * j)).take 64) from rfl)
      generalize fld K0 s bs j = T at *
      have hTl' := hTl
      obtain ⟨a, b, cc, d, e, f, g, h, rfl⟩ := eight T hTl
      have q0 := hF.box.cell 0 _ rfl
      have q1 := hF.box.cell 1 _ rfl
      have q2 := hF.box.cell 2 _ rfl
      have q3 := hF.box.cell 3 _ rfl
      have q4 := hF.box.cell 4 _ rfl
      have q5 := hF.box.cell 5 _ rfl
      have q6 := hF.box.cell 6 _ rfl
      have q7 := hF.box.cell 7 _ rfl
      have hr1 := (hr.below hF.below)
      have hrm := Lib.hid (hr1.mid (64 * j) (64 * (j + 1)) c (by omega) (by omega) hc)
      have hsl := fun wx => run_slice_lh (P := Tryd.prog) wx 27 5 i0 Tryd.underlying27 hi5 hz1 A n c (64 * j) (64 * (j + 1)) (by omega) (by omega) .i64 .i64 (64 * (j : Int)) (64 * ((j : Int) + 1)) (by omega) (by omega)
      have e64 : 64 * (j + 1) - 64 * j = 64 := by omega
      rw [e64] at hsl
      generalize (if c = 64 * j then A else A.map (·.add (64 * j))) = A2 at *
      have HTw := Lib.hid hTw
      have z1 := IntWalk.i64_in (64 * (j : Int)) (by omega)
      have z2 := IntWalk.i64_in ((j : Int) + 1) (by omega)
      have z3 := IntWalk.i64_in (64 * ((j : Int) + 1)) (by omega)
      have HTl := Lib.hid hTl'
      clear hTw hTl hTl'
      go_wp2_with fail
      go_still_tail 8, (by kernel_rfl)
      go_wp2_with fail
      clear hsl z1 z2 z3 q0 q1 q2 q3 q4 q5 q6 q7
      have hrm2 := hrm.out
      rw [e64] at hrm2
      have hrm3 : Rd wr.drew wr.drew.heap.size A2 64 (bys ((bs.drop (64 * j)).take 64)) := by
        have := hrm2.up (B' := wr.heap.size) hF.below.size
        rw [bys_take, bys_drop]; exact this
      have hbb : ∀ x ∈ (bs.drop (64 * j)).take 64, x < 256 := fun x hx => HB.out x (List.mem_of_mem_drop (List.mem_of_mem_take hx))
      refine (foldChunk_any A2 _ _ [a, b, cc, d, e, f, g, h] wr.drew hrm3 hbb rfl HTw.out (HTab.out.below (Below.drew' hF.below) HTab.out.1)).mono ?_
      rintro ee w5 ⟨rfl, hb5⟩
      have hb5' : Below wr.heap.size wr w5 := ⟨hb5.os, hb5.tape, hb5.output, hb5.size, hb5.block⟩
      have hF5 : FS w w5 [a, b, cc, d, e, f, g, h] := ⟨hF.box.below hb5' hF.box.lt, hF.res.below hb5' hF.res.lt, hF.below.trans (hb5'.mono hF.below.size)⟩
      clear hF hb5' hb5 hrm2 hrm3 hbb hr1 e64
      have hcl := cmp_len K0 [a, b, cc, d, e, f, g, h] ((bs.drop (64 * j)).take 64)
      have hnx := hnx.out
      generalize cmp K0 [a, b, cc, d, e, f, g, h] ((bs.drop (64 * j)).take 64) = T' at *
      have HNX := Lib.hid hnx
      have hst : (us T').length = 8 := by rw [us_len]; exact hcl
      have HST := Lib.hid hst
      have HTT := Lib.hid (show w5.there w.heap.size 0 (us T').toArray.size by
        have := hF5.box.there
        rw [show (us T').toArray.size = 8 from hst]; exact this)
      clear hst hnx hcl
      go_wp2_with (refine wpList_store_mid rfl 63 (.tmp 2) (.tmp 20) rfl w.heap.size 0 (us T').toArray rfl rfl HTT.out (by rw [show (us T').toArray.size = 8 from HST.out]; exact Tryd.size63) (all_oneCell_toArray (us_one _)) ?_)
      go_roundg (q - (j + 1))
      case measure => have := hM.out; omega
      case rel =>
        refine ⟨j + 1, rfl, by omega, by go_num, ?_, hF5.res.setCells _ _ _ (by omega), Below.setCells' hF5.below _ _ (Nat.le_refl _) _⟩
        rw [HNX.out]
        exact hF5.box.stored (us T') HST.out
    · obtain rfl : q = j := by omega
      have hdec : decide ((q : Int) < (q : Int)) = false := by simp
      have hal := fld_len K0 s bs HS.out q
      have hcm : fld K0 s bs q = fld K0 s bs q := rfl
      obtain ⟨LL, hLL⟩ : ∃ LL, fld K0 s bs q = LL := ⟨_, rfl⟩
      rw [hLL] at hF hal
      have HLL := Lib.hid hLL
      have hsz : (us LL).length = 8 := by rw [us_len]; exact hal
      have HSZ2 := Lib.hid hsz
      have HR := Lib.hid hF.box.range
      have HTH := Lib.hid (show wr.there (w.heap.size + 1) 0 (us LL).toArray.size by
        have := hF.res.there
        rw [show (us LL).toArray.size = 8 from hsz]; exact this)
      clear hsz hal hcm hLL
      have hbel := hF.below
      go_wp2_with (first
        | (refine wpList_load_mid rfl 63 (.tmp 2) rfl w.heap.size 0 rfl (us LL) _ HR.out Tryd.underlying63 rfl (by rw [HSZ2.out]; exact Tryd.size63) ?_)
        | (refine wpList_store_mid rfl 63 (.tmp 4) (.tmp 22) rfl (w.heap.size + 1) 0 (us LL).toArray rfl rfl HTH.out (by rw [show (us LL).toArray.size = 8 from HSZ2.out]; exact Tryd.size63) (all_oneCell_toArray (us_one _)) ?_))
      exact bodyPost_ret (results_arr rfl _ _ (w.heap.size + 1) (us LL) _ rfl (World.rangeAt_setCells_same _ _ _ _ (by simpa using HTH.out)) Tryd.underlying63 rfl (by rw [HSZ2.out]; exact Tryd.size63)) rfl ⟨by rw [HLL.out], Below.setCells' hbel _ _ (by omega) _⟩
end Go.Proofs.YtkokbpifjpmhlaaDoor
