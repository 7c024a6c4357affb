/- Walks: foldChunk. -/
import Derived.Test.YtkokbpifjpmhlaaDoorD3
import Derived.Test.YtkokbpifjpmhlaaDoorLaid
namespace Go.Proofs.YtkokbpifjpmhlaaDoor
set_option linter.unusedSimpArgs false
set_option linter.unusedVariables false
open Go.RowKit

theorem eight (T : List Int) (h : T.length = 8) : ∃ a b c d e f g i, T = [a, b, c, d, e, f, g, i] := by
  match T, h with
  | [a, b, c, d, e, f, g, i], _ => exact ⟨a, b, c, d, e, f, g, i, rfl⟩
def stl (s : List Int) (x : Int) : List Int := st8 (s.getD 0 0) (s.getD 1 0) (s.getD 2 0) (s.getD 3 0) (s.getD 4 0) (s.getD 5 0) (s.getD 6 0) (s.getD 7 0) x
def rnd (K ws s : List Int) : Nat → List Int
  | 0 => s
  | j + 1 => stl (rnd K ws s j) ((K.getD j 0 + ws.getD j 0) % 4294967296)
def addl (s r : List Int) (j : Nat) : List Int := (List.range 8).map fun i => if i < j then (s.getD i 0 + r.getD i 0) % 4294967296 else s.getD i 0
def cmp (K s : List Int) (bs : List Nat) : List Int := addl s (rnd K (spr bs) s 64) 8
theorem rnd_len (K ws s : List Int) (h : s.length = 8) (j : Nat) : (rnd K ws s j).length = 8 := by
  cases j with
  | zero => exact h
  | succ j => simp [rnd, stl, st8]
theorem st8_w (a b c d e f g h x : Int) (ha : W32 a) (hb : W32 b) (hc : W32 c) (he : W32 e) (hf : W32 f) (hg : W32 g) : ∀ y ∈ st8 a b c d e f g h x, W32 y := by
  intro y hy
  simp [st8] at hy
  rcases hy with rfl | rfl | rfl | rfl | rfl | rfl | rfl | rfl
  all_goals first | assumption | (unfold W32; omega)
theorem rnd_w (K ws s : List Int) (h : ∀ x ∈ s, W32 x) (j : Nat) : ∀ x ∈ rnd K ws s j, W32 x := by
  induction j with
  | zero => exact h
  | succ j ih => exact st8_w _ _ _ _ _ _ _ _ _ (getD_w _ ih _) (getD_w _ ih _) (getD_w _ ih _) (getD_w _ ih _) (getD_w _ ih _) (getD_w _ ih _)
theorem addl_zero (s r : List Int) (h : s.length = 8) : addl s r 0 = s := by
  apply List.ext_getElem (by simp [addl, h])
  intro i h1 h2
  simp [addl, List.getD, h2]
theorem addl_len (s r : List Int) (j : Nat) : (addl s r j).length = 8 := by simp [addl]
theorem addl_w (s r : List Int) (h : ∀ x ∈ s, W32 x) (j : Nat) : ∀ x ∈ addl s r j, W32 x := by
  intro x hx
  simp only [addl, List.mem_map] at hx
  obtain ⟨i, _, rfl⟩ := hx
  split
  · unfold W32; omega
  · exact getD_w s h i
theorem addl_at (s r : List Int) (j : Nat) (hj : j < 8) : (us (addl s r j))[j]? = some (.int .u32 (s.getD j 0)) := by
  rw [us_get _ _ (by rw [addl_len]; exact hj)]
  simp [addl, List.getD, hj]
theorem addl_set (s r : List Int) (j : Nat) (hj : j < 8) : (us (addl s r j)).set j (.int .u32 ((s.getD j 0 + r.getD j 0) % 4294967296)) = us (addl s r (j + 1)) := by
  unfold us
  rw [← List.map_set]
  congr 1
  apply List.ext_getElem (by simp [addl])
  intro i h1 h2
  rw [List.getElem_set]
  by_cases e : j = i
  · subst e
    simp [addl]
  · rw [if_neg e]
    simp only [addl, List.getElem_map, List.getElem_range]
    have : (i < j + 1) = (i < j) := by rw [eq_iff_iff]; omega
    simp [this]
theorem cmp_len (K s : List Int) (bs : List Nat) : (cmp K s bs).length = 8 := addl_len _ _ _
theorem cmp_w (K s : List Int) (bs : List Nat) (h : ∀ x ∈ s, W32 x) : ∀ x ∈ cmp K s bs, W32 x := addl_w _ _ h _
theorem K0_w : ∀ x ∈ K0, W32 x := by unfold W32; decide

/-- The state of foldChunk. -/
structure FC (w wr : World) (s T ws : List Int) (gw : Nat) : Prop where
  box : Blk wr w.heap.size 63 (us s).toArray
  res : Blk wr (w.heap.size + 1) 63 Z8
  trn : Blk wr (w.heap.size + 1 + 1) 63 (us T).toArray
  wrd : Blk wr gw 45 (us ws).toArray
  far : w.heap.size + 1 + 1 < gw
  tab : TabAt wr
  below : Below w.heap.size w wr

theorem tab_w (w : World) (h : TabAt w) (j : Nat) (hj : j < 64) : w.cell? ⟨0, j, none⟩ = some (.int .u32 (K0.getD j 0)) := h.2 j hj

set_option maxHeartbeats 1000000 in
set_option maxRecDepth 100000 in
theorem foldChunk_any (A : Option Addr) (c : Nat) (bs : List Nat) (s : List Int) (w : World) (hr : Rd w w.heap.size A 64 (bys bs)) (hb : ∀ c ∈ bs, c < 256) (hs : s.length = 8) (hw : ∀ x ∈ s, W32 x) (ht : TabAt w) :
    Calls Tryd.prog 35 #[.agg (us s).toArray, .slice A 64 c] w fun e w' => e = .returned (.agg (us (cmp K0 s bs)).toArray) ∧ Below w.heap.size w w' := by
  have hsz : (us s).length = 8 := by rw [us_len, hs]
  have HSZ := Lib.hid hsz
  have HS := Lib.hid hs
  have HB := Lib.hid hb
  have HW := Lib.hid hw
  have HTab := Lib.hid ht
  have W1e : ∃ W1 : World, W1 = (w.alloc (.cells (us s).toArray 63)).alloc (.cells Z8 63) := ⟨_, rfl⟩
  obtain ⟨W1, e1⟩ := W1e
  have hW1s : W1.heap.size = w.heap.size + 1 + 1 := by rw [e1]; simp
  have hB1 : Below w.heap.size w W1 := by rw [e1]; exact ((Below.refl _ _).alloc (Nat.le_refl _) _).alloc (by simp) _
  have b0 : Blk W1 w.heap.size 63 (us s).toArray := by rw [e1]; exact heap_alloc2_old w _ _
  have b1 : Blk W1 (w.heap.size + 1) 63 Z8 := by rw [e1]; exact heap_alloc2_new w _ _
  have HE1 := Lib.hid e1
  have HR0 := Lib.hid (show ((w.alloc (.cells (us s).toArray 63)).alloc (.cells Z8 63)).rangeAt w.heap.size 0 (us s) by rw [← e1]; exact b0.range)
  have HT0 := Lib.hid (show (((w.alloc (.cells (us s).toArray 63)).alloc (.cells Z8 63)).alloc (.cells Z8 63)).there (w.heap.size + 1 + 1) 0 (us s).toArray.size by
    have := there_new W1 Z8 63 8 rfl
    rw [hW1s, e1] at this
    rw [show (us s).toArray.size = 8 from hsz]; exact this)
  have hW2e : ∃ W2 : World, W2 = (W1.alloc (.cells Z8 63)).setCells (w.heap.size + 1 + 1) 0 (us s) := ⟨_, rfl⟩
  obtain ⟨W2, e2⟩ := hW2e
  have hW2s : W2.heap.size = w.heap.size + 1 + 1 + 1 := by rw [e2, size_setCells]; simp [hW1s]
  have hB2 : Below w.heap.size w W2 := by rw [e2]; exact Below.setCells' (hB1.alloc (by omega) _) _ _ (by omega) _
  have d0 : Blk W2 w.heap.size 63 (us s).toArray := by rw [e2]; exact (b0.alloc _).setCells _ _ _ (by omega)
  have d1 : Blk W2 (w.heap.size + 1) 63 Z8 := by rw [e2]; exact (b1.alloc _).setCells _ _ _ (by omega)
  have d2 : Blk W2 (w.heap.size + 1 + 1) 63 (us s).toArray := by
    rw [e2]
    have := Blk.new W1 63 Z8
    rw [hW1s] at this
    exact this.stored (us s) hsz
  have ht2 : TabAt W2 := ht.below hB2 ht.1
  have hr2 : Rd W2 W2.heap.size A 64 (bys bs) := (hr.below hB2).up (by omega)
  have HE2 := Lib.hid (show ((((w.alloc (.cells (us s).toArray 63)).alloc (.cells Z8 63)).alloc (.cells Z8 63)).setCells (w.heap.size + 1 + 1) 0 (us s)) = W2 by rw [e2, e1])
  clear e1 e2 hsz hs hb hw ht
  go_enter Tryd.func35, Tryd.ntmps35
  go_wp2_with (first
    | (refine wpList_of_wp rfl fun K hK => wp_alloc_arr 63 rfl Z8 Tryd.zero63 (hK _ _ ?_); (try simp only [World.size_alloc]))
    | (refine wpList_load_mid rfl 63 (.tmp 2) rfl w.heap.size 0 rfl (us s) _ HR0.out Tryd.underlying63 rfl (by rw [HSZ.out]; exact Tryd.size63) ?_)
    | (refine wpList_store_mid rfl 63 (.tmp 5) (.tmp 9) rfl (w.heap.size + 1 + 1) 0 (us s).toArray rfl rfl HT0.out (by rw [show (us s).toArray.size = 8 from HSZ.out]; exact Tryd.size63) (all_oneCell_toArray (us_one _)) ?_))
  rw [show (((((w.alloc (.cells (us s).toArray 63)).alloc (.cells Z8 63)).alloc (.cells Z8 63)).setCells (w.heap.size + 1 + 1) 0 (us s).toArray.toList)) = W2 from HE2.out]
  refine (spread_any A c bs W2 hr2 HB.out).mono ?_
  rintro e w3 ⟨rfl, hb3⟩
  have hs3 : w.heap.size + 1 + 1 + 1 ≤ w3.heap.size := by have := hb3.size; omega
  have hlen := spr_len bs
  have hsw := spr_w bs HB.out
  have HCMP := Lib.hid (show cmp K0 s bs = addl s (rnd K0 (spr bs) s 64) 8 from rfl)
  generalize spr bs = ws at *
  have HLW := Lib.hid hlen
  have HSW := Lib.hid hsw
  have HT3 := Lib.hid (show (w3.alloc (.cells Z64 45)).there w3.heap.size 0 (us ws).toArray.size by
    have := there_new w3 Z64 45 64 rfl
    rw [show (us ws).toArray.size = 64 by rw [List.size_toArray, us_len]; exact hlen]; exact this)
  have hF : FC w ((w3.alloc (.cells Z64 45)).setCells w3.heap.size 0 (us ws)) s s ws w3.heap.size := by
    have hB3 : Below w.heap.size w w3 := hB2.trans (hb3.mono (by omega))
    have hB4 : Below w.heap.size w ((w3.alloc (.cells Z64 45)).setCells w3.heap.size 0 (us ws)) := Below.setCells' (hB3.alloc (by omega) _) _ _ (by omega) _
    exact ⟨((d0.below hb3 (by omega)).alloc _).setCells _ _ _ (by omega), ((d1.below hb3 (by omega)).alloc _).setCells _ _ _ (by omega), ((d2.below hb3 (by omega)).alloc _).setCells _ _ _ (by omega),
      (Blk.new w3 45 Z64).stored (us ws) (by rw [us_len]; exact hlen), by omega, HTab.out.below hB4 HTab.out.1, hB4⟩
  clear hlen hsw d0 d1 d2 b0 b1 hB1 hB2 hb3 hr2 ht2 HE1
  go_wp2_with (first
    | (refine wpList_of_wp rfl fun K hK => wp_alloc_arr 45 rfl Z64 Tryd.zero45 (hK _ _ ?_); (try simp only [World.size_alloc]))
    | (refine wpList_store_mid rfl 45 (.tmp 6) (.tmp 11) rfl w3.heap.size 0 (us ws).toArray rfl rfl HT3.out (by rw [show (us ws).toArray.size = 64 by rw [List.size_toArray, us_len]; exact HLW.out]; exact Tryd.size45) (all_oneCell_toArray (us_one _)) ?_))
  go_loopg [12] 64 (fun k v wr => ∃ j, k = 64 - j ∧ j ≤ 64 ∧ v = .int .i64 j ∧ FC w wr s (rnd K0 ws s j) ws w3.heap.size)
  case atStart => exact ⟨0, rfl, Nat.zero_le _, rfl, hF⟩
  case round =>
    clear hF
    obtain ⟨j, hk, hj, rfl, hF⟩ := hrel
    have hM := Lib.hid hk
    clear hk
    by_cases hlt : j < 64
    · have hlt' : (j : Int) < 64 := by omega
      have hTw := rnd_w K0 ws s HW.out j
      have hTl := rnd_len K0 ws s HS.out j
      have hnx := Lib.hid (show rnd K0 ws s (j + 1) = stl (rnd K0 ws s j) ((K0.getD j 0 + ws.getD j 0) % 4294967296) from rfl)
      generalize rnd K0 ws s j = T at *
      obtain ⟨a, b, c, d, e, f, g, h, rfl⟩ := eight T hTl
      have q0 := hF.trn.cell 0 _ rfl
      have q1 := hF.trn.cell 1 _ rfl
      have q2 := hF.trn.cell 2 _ rfl
      have q3 := hF.trn.cell 3 _ rfl
      have q4 := hF.trn.cell 4 _ rfl
      have q5 := hF.trn.cell 5 _ rfl
      have q6 := hF.trn.cell 6 _ rfl
      have q7 := hF.trn.cell 7 _ rfl
      have qt := tab_w wr hF.tab j hlt
      have qw := hF.wrd.cell j _ (us_get ws j (by rw [HLW.out]; exact hlt))
      have xw := getD_w ws HSW.out j
      have kw := getD_w K0 K0_w j
      generalize K0.getD j 0 = kj at *
      generalize ws.getD j 0 = wj at *
      have HTw := Lib.hid hTw
      obtain ⟨x0, x1⟩ := xw
      obtain ⟨k0, k1⟩ := kw
      clear hTw hTl
      go_wp2_with fail
      go_still_tail 8, (by kernel_rfl)
      go_wp2_with fail
      have m0 := HTw.out a (by simp)
      have m1 := HTw.out b (by simp)
      have m2 := HTw.out c (by simp)
      have m3 := HTw.out d (by simp)
      have m4 := HTw.out e (by simp)
      have m5 := HTw.out f (by simp)
      have m6 := HTw.out g (by simp)
      have m7 := HTw.out h (by simp)
      refine (step_any a b c d e f g h _ m0 m1 m2 m3 m4 m5 m6 m7 (show W32 ((kj + wj) % 4294967296) by unfold W32; omega) _).mono ?_
      rintro ee w5 ⟨rfl, hb5⟩
      have hb5' : Below wr.heap.size wr w5 := ⟨hb5.os, hb5.tape, hb5.output, hb5.size, hb5.block⟩
      clear hb5 m0 m1 m2 m3 m4 m5 m6 m7 q0 q1 q2 q3 q4 q5 q6 q7 qt qw
      have hlt5 := hF.wrd.lt
      have hF5 : FC w w5 s [a, b, c, d, e, f, g, h] ws w3.heap.size :=
        ⟨hF.box.below hb5' hF.box.lt, hF.res.below hb5' hF.res.lt, hF.trn.below hb5' hF.trn.lt, hF.wrd.below hb5' hF.wrd.lt, hF.far, hF.tab.below hb5' hF.tab.1, hF.below.trans (hb5'.mono hF.below.size)⟩
      clear hF hb5'
      have hst : (us (st8 a b c d e f g h ((kj + wj) % 4294967296))).length = 8 := rfl
      have HNX := Lib.hid (show rnd K0 ws s (j + 1) = st8 a b c d e f g h ((kj + wj) % 4294967296) by rw [hnx.out]; rfl)
      generalize st8 a b c d e f g h ((kj + wj) % 4294967296) = T' at *
      have HST := Lib.hid hst
      have HTT := Lib.hid (show w5.there (w.heap.size + 1 + 1) 0 (us T').toArray.size by
        have := hF5.trn.there
        rw [show (us T').toArray.size = 8 from hst]; exact this)
      clear hst
      go_wp2_with (refine wpList_store_mid rfl 63 (.tmp 5) (.tmp 23) rfl (w.heap.size + 1 + 1) 0 (us T').toArray rfl rfl HTT.out (by rw [show (us T').toArray.size = 8 from HST.out]; exact Tryd.size63) (all_oneCell_toArray (us_one _)) ?_)
      go_roundg (64 - (j + 1))
      case measure => have := hM.out; omega
      case rel =>
        have hfar := hF5.far
        have hB6 : Below w.heap.size w (w5.setCells (w.heap.size + 1 + 1) 0 (us T')) := Below.setCells' hF5.below _ _ (by omega) _
        refine ⟨j + 1, rfl, by omega, by go_num, hF5.box.setCells _ _ _ (by omega), hF5.res.setCells _ _ _ (by omega), ?_, hF5.wrd.setCells _ _ _ (by omega), hfar, HTab.out.below hB6 HTab.out.1, hB6⟩
        rw [HNX.out]
        exact hF5.trn.stored (us T') HST.out
    · obtain rfl : j = 64 := by omega
      have hdec : decide (((64 : Nat) : Int) < 64) = false := by decide
      have hTl := rnd_len K0 ws s HS.out 64
      have HC2 := HCMP.out
      generalize rnd K0 ws s 64 = T at *
      have HCM := Lib.hid HC2
      have HTl := Lib.hid hTl
      clear HC2 hTl
      go_wp2_with fail
      go_loopg [25] 8 (fun k v wr => ∃ i, k = 8 - i ∧ i ≤ 8 ∧ v = .int .i64 i ∧ FC w wr (addl s T i) T ws w3.heap.size)
      case atStart => exact ⟨0, rfl, Nat.zero_le _, rfl, by rw [addl_zero s T HS.out]; exact hF⟩
      case round =>
        clear hF hdec hlt
        obtain ⟨i, hk, hi, rfl, hF⟩ := hrel
        have hM2 := Lib.hid hk
        clear hk
        by_cases hlt : i < 8
        · have hlt' : (i : Int) < 8 := by omega
          have q0 := hF.box.cell i _ (addl_at s T i hlt)
          have q1 := hF.trn.cell i _ (us_get T i (by rw [HTl.out]; exact hlt))
          have qf := hF.box.cold i
          have hset := Lib.hid (addl_set s T i hlt)
          generalize s.getD i 0 = si at *
          generalize T.getD i 0 = ti at *
          go_wp2_with fail
          go_still_tail 7, (by kernel_rfl)
          go_wp2
          go_roundg (8 - (i + 1))
          case measure => have := hM2.out; omega
          case rel =>
            have hfar := hF.far
            refine ⟨i + 1, rfl, by omega, by go_num, ?_⟩
            have hB6 : Below w.heap.size w ((wr.setCell ⟨w.heap.size, i, none⟩ (.int .u32 ((si + ti) % 4294967296)))) := hF.below.setCell (by simp) _
            have h1 := hF.box.set i (.int .u32 ((si + ti) % 4294967296))
            rw [List.setIfInBounds_toArray, hset.out] at h1
            exact ⟨h1.drew, (hF.res.other _ _ (by simp)).drew, (hF.trn.other _ _ (by simp; omega)).drew, (hF.wrd.other _ _ (by simp; omega)).drew, hfar, HTab.out.below (Below.drew' hB6) HTab.out.1, Below.drew' hB6⟩
        · obtain rfl : i = 8 := by omega
          have hdec : decide (((8 : Nat) : Int) < 8) = false := by decide
          have hal := addl_len s T 8
          have hcm := HCM.out
          generalize addl s T 8 = LL at *
          have hsz : (us LL).length = 8 := by rw [us_len]; exact hal
          have HSZ2 := Lib.hid hsz
          have HR := Lib.hid hF.box.range
          have HTH := Lib.hid (show wr.there (w.heap.size + 1) 0 (us LL).toArray.size by
            have := hF.res.there
            rw [show (us LL).toArray.size = 8 from hsz]; exact this)
          have HCM2 := Lib.hid hcm
          clear hsz hal hcm
          have hbel := hF.below
          go_wp2_with (first
            | (refine wpList_load_mid rfl 63 (.tmp 2) rfl w.heap.size 0 rfl (us LL) _ HR.out Tryd.underlying63 rfl (by rw [HSZ2.out]; exact Tryd.size63) ?_)
            | (refine wpList_store_mid rfl 63 (.tmp 4) (.tmp 37) rfl (w.heap.size + 1) 0 (us LL).toArray rfl rfl HTH.out (by rw [show (us LL).toArray.size = 8 from HSZ2.out]; exact Tryd.size63) (all_oneCell_toArray (us_one _)) ?_))
          exact bodyPost_ret (results_arr rfl _ _ (w.heap.size + 1) (us LL) _ rfl (World.rangeAt_setCells_same _ _ _ _ (by simpa using HTH.out)) Tryd.underlying63 rfl (by rw [HSZ2.out]; exact Tryd.size63)) rfl ⟨by rw [HCM2.out], Below.setCells' hbel _ _ (by omega) _⟩
end Go.Proofs.YtkokbpifjpmhlaaDoor
