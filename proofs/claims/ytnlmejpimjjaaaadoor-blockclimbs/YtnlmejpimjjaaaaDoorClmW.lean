/- The walk of BlockClimbs. -/
import Derived.Test.YtnlmejpimjjaaaaDoorB5
namespace Go.Proofs.YtnlmejpimjjaaaaDoor
set_option linter.unusedSimpArgs false
set_option linter.unusedVariables false
open Go.RowKit

set_option maxHeartbeats 1000000 in
set_option maxRecDepth 100000 in
theorem climbs_long (x : List Nat) (a : Int) (A : Option Addr) (n c : Nat) (w : World) (ht : TabAt w) (h : (20 : Int) < n) :
    Calls Tryd.prog 8 #[.agg (bys x).toArray, .int .i64 a, .slice A n c] w fun e w' => e = .returned (.bool true) ∧ Below w.heap.size w w' := by
  have HT := Lib.hid ht
  clear ht
  have hb0 : Below w.heap.size w (w.alloc (.cells (bys x).toArray 33)) := (Below.refl _ _).alloc (Nat.le_refl _) _
  go_enter Tryd.func8, Tryd.ntmps8
  go_wp2_with fail
  refine (bhead_any _ (HT.out.below hb0 HT.out.1)).mono ?_
  rintro e w1 ⟨rfl, hb1⟩
  go_wp2_with fail
  go_ret
  exact ⟨rfl, hb0.trans (hb1.mono (by simp))⟩

/-- The law's own climb: where the digest, and what it has come to, stand. -/
structure CL (w wr : World) (gw : Nat) (x C : List Nat) : Prop where
  box : Blk wr w.heap.size 33 (bys x).toArray
  want : Blk wr gw 33 (bys C).toArray
  ne : w.heap.size < gw
  below : Below w.heap.size w wr

set_option maxHeartbeats 4000000 in
set_option maxRecDepth 100000 in
theorem climbs_walk (x : List Nat) (a : Int) (A : Option Addr) (n c : Nat) (bs : List (List Nat)) (w : World) (hx : IsH x) (hr : RH w w.heap.size A n bs) (ht : TabAt w) (h : (n : Int) ≤ 20) :
    Calls Tryd.prog 8 #[.agg (bys x).toArray, .int .i64 a, .slice A n c] w fun e w' => e = .returned (.bool true) ∧ Below w.heap.size w w' := by
  have HT := Lib.hid ht
  have HX := Lib.hid hx
  have HSX := Lib.hid (sizeH x hx)
  clear ht
  have hd20 : decide ((20 : Int) < (n : Int)) = false := by simp; omega
  have hb0 : Below w.heap.size w (w.alloc (.cells (bys x).toArray 33)) := (Below.refl _ _).alloc (Nat.le_refl _) _
  have bk0 : Blk (w.alloc (.cells (bys x).toArray 33)) w.heap.size 33 (bys x).toArray := Blk.new _ _ _
  go_enter Tryd.func8, Tryd.ntmps8
  go_wp2_with fail
  refine (bhead_any _ (HT.out.below hb0 HT.out.1)).mono ?_
  rintro e w1 ⟨rfl, hb1⟩
  have hB1 := hb0.trans (hb1.mono (by simp))
  have bk1 := bk0.below hb1 bk0.lt
  have s1 := hB1.size
  have l1 := bk1.lt
  have hxl : (bys x).length = ZH.size := by rw [bys_len, hx.1, ZH_size]
  have HRX := Lib.hid bk1.range
  have HTN := Lib.hid (there_new w1 ZH 33 (bys x).toArray.size (by rw [← hxl]; simp))
  have hcl0 : CL w ((w1.alloc (.cells ZH 33)).setCells w1.heap.size 0 (bys x)) w1.heap.size x x :=
    ⟨(bk1.alloc _).setCells _ _ _ (by omega), (Blk.new w1 33 ZH).stored (bys x) hxl, l1, Below.setCells' (hB1.alloc s1 _) _ _ s1 _⟩
  clear hb0 bk0 hb1 hB1 bk1 s1 l1 hxl
  go_upto_region 6 with (first
    | (refine wpList_load_mid rfl 33 (.tmp 3) rfl w.heap.size 0 rfl (bys x) _ HRX.out Tryd.underlying33 rfl HSX.out ?_)
    | (refine wpList_of_wp rfl fun K hK => wp_alloc_arr 33 rfl ZH Tryd.zero33 (hK _ _ ?_))
    | (refine wpList_store_mid rfl 33 (.tmp 7) (.tmp 15) rfl w1.heap.size 0 (bys x).toArray rfl rfl HTN.out (by simpa using HSX.out) (all_oneCell_toArray (bys_one _)) ?_))
  change Code.wp _ _ _ _ ((w1.alloc (.cells ZH 33)).setCells w1.heap.size 0 (bys x))
  generalize (w1.alloc (.cells ZH 33)).setCells w1.heap.size 0 (bys x) = W0 at *
  generalize w1.heap.size = gw at *
  clear HRX HTN
  go_wp2_with fail
  go_loopg [18] n (fun k i wr => ∃ (j : Nat), k = n - j ∧ j ≤ n ∧ i = .int .i64 (j : Int) ∧ CL w wr gw x (clm x a bs j))
  case atStart => exact ⟨0, rfl, Nat.zero_le _, rfl, hcl0⟩
  case round =>
    obtain ⟨j, hk, hj, rfl, hcl⟩ := hrel
    have HK := Lib.hid hk
    have HCI := Lib.hid (clm_is x a bs HX.out j)
    clear hk hcl0
    have hs1 := hcl.below.size
    have hgw := hcl.want.lt
    by_cases hlt : j < n
    · have hlt' : (j : Int) < (n : Int) := by omega
      obtain ⟨g, off, rfl, hg, hx1⟩ := hr.elem j hlt
      have HY := Lib.hid (hr.isAt j hlt)
      have HX1 := Lib.hid (rangeAt_below hx1 hcl.below hg)
      obtain ⟨b, hbe⟩ : ∃ b : Int, a / 2 ^ j = b := ⟨_, rfl⟩
      have HST : Hid (clm x a bs (j + 1) = if b % 2 = 1 then pr (bs.getD j []) (clm x a bs j) else pr (clm x a bs j) (bs.getD j [])) := Lib.hid (by rw [clm, hbe])
      generalize hC : clm x a bs j = C at *
      generalize bs.getD j [] = Y at *
      have HSY := Lib.hid (sizeH Y HY.out)
      have HSC := Lib.hid (sizeH C HCI.out)
      have hyl : (bys Y).length = 32 := by rw [bys_len, HY.out.1]
      have HTN := Lib.hid (there_new wr ZH 33 (bys Y).toArray.size (by rw [ZH_size]; simp [hyl]))
      have hb1 : Below wr.heap.size wr ((wr.alloc (.cells ZH 33)).setCells wr.heap.size 0 (bys Y)) := Below.setCells' ((Below.refl _ _).alloc (Nat.le_refl _) _) _ _ (Nat.le_refl _) _
      have bkY : Blk ((wr.alloc (.cells ZH 33)).setCells wr.heap.size 0 (bys Y)) wr.heap.size 33 (bys Y).toArray := (Blk.new wr 33 ZH).stored (bys Y) (by rw [ZH_size, hyl])
      have hcl1 : CL w ((wr.alloc (.cells ZH 33)).setCells wr.heap.size 0 (bys Y)) gw x C := ⟨hcl.box.below hb1 hcl.box.lt, hcl.want.below hb1 hcl.want.lt, hcl.ne, hcl.below.trans (hb1.mono hs1)⟩
      have HCC := Lib.hid hC
      clear hx1 hC hb1 hcl hyl
      have HBE := Lib.hid hbe
      clear hbe
      by_cases hodd : b % 2 = 1
      · have hbit : bits .and .i64 (a / 2 ^ j) 1 = 1 := by rw [i64_and1, HBE.out, hodd]
        rw [if_pos hodd] at HST
        go_upto_region 10 with (first
          | (refine wpList_load_mid rfl 33 (.tmp 21) rfl g (off + j * 32) rfl (bys Y) _ HX1.out Tryd.underlying33 rfl HSY.out ?_)
          | (refine wpList_of_wp rfl fun K hK => wp_alloc_arr 33 rfl ZH Tryd.zero33 (hK _ _ ?_))
          | (refine wpList_store_mid rfl 33 (.tmp 9) (.tmp 22) rfl wr.heap.size 0 (bys Y).toArray rfl rfl HTN.out (by simpa using HSY.out) (all_oneCell_toArray (bys_one _)) ?_))
        change Code.wp _ _ _ _ ((wr.alloc (.cells ZH 33)).setCells wr.heap.size 0 (bys Y))
        generalize (wr.alloc (.cells ZH 33)).setCells wr.heap.size 0 (bys Y) = w1 at *
        have HRY := Lib.hid bkY.range
        have HRC := Lib.hid hcl1.want.range
        go_wp2_with (first
          | (refine wpList_load_mid rfl 33 (.tmp 9) rfl wr.heap.size 0 rfl (bys Y) _ HRY.out Tryd.underlying33 rfl HSY.out ?_)
          | (refine wpList_load_mid rfl 33 (.tmp 7) rfl gw 0 rfl (bys C) _ HRC.out Tryd.underlying33 rfl HSC.out ?_))
        refine (pairs_any Y C HY.out HCI.out w1 (HT.out.below hcl1.below HT.out.1)).mono ?_
        rintro e w2 ⟨rfl, hb2⟩
        have hB2 := hcl1.below.trans (hb2.mono hcl1.below.size)
        have bx2 := hcl1.box.below hb2 hcl1.box.lt
        have wt2 := hcl1.want.below hb2 hcl1.want.lt
        have hne := hcl1.ne
        have HD := Lib.hid (pr_is Y C)
        generalize pr Y C = D at *
        have HSD := Lib.hid (sizeH D HD.out)
        have hdl : (bys D).length = 32 := by rw [bys_len, HD.out.1]
        have hcll : (bys C).length = 32 := by rw [bys_len, HCI.out.1]
        have HTD := Lib.hid (show w2.there gw 0 (bys D).toArray.size by rw [show (bys D).toArray.size = (bys C).toArray.size by simp [hdl, hcll]]; exact wt2.there)
        have HCS2 : Hid (CL w (w2.setCells gw 0 (bys D)) gw x (clm x a bs (j + 1))) := Lib.hid (by
          rw [HST.out]
          exact ⟨bx2.setCells _ _ _ (by omega), wt2.stored (bys D) (by simp [hdl, hcll]), hne, Below.setCells' hB2 _ _ (by omega) _⟩)
        clear hcl1 hb2 hB2 bx2 wt2 hdl hcll bkY HRY HRC HTN
        go_wp2_with (refine wpList_store_mid rfl 33 (.tmp 7) (.tmp 31) rfl gw 0 (bys D).toArray rfl rfl HTD.out (by simpa using HSD.out) (all_oneCell_toArray (bys_one _)) ?_)
        go_roundg (n - (j + 1))
        case measure => have := HK.out; omega
        case rel => exact ⟨j + 1, rfl, by omega, by go_num, HCS2.out⟩
      · have hbit : bits .and .i64 (a / 2 ^ j) 1 = 0 := by rw [i64_and1, HBE.out]; omega
        rw [if_neg hodd] at HST
        go_upto_region 11 with (first
          | (refine wpList_load_mid rfl 33 (.tmp 21) rfl g (off + j * 32) rfl (bys Y) _ HX1.out Tryd.underlying33 rfl HSY.out ?_)
          | (refine wpList_of_wp rfl fun K hK => wp_alloc_arr 33 rfl ZH Tryd.zero33 (hK _ _ ?_))
          | (refine wpList_store_mid rfl 33 (.tmp 9) (.tmp 22) rfl wr.heap.size 0 (bys Y).toArray rfl rfl HTN.out (by simpa using HSY.out) (all_oneCell_toArray (bys_one _)) ?_))
        change Code.wp _ _ _ _ ((wr.alloc (.cells ZH 33)).setCells wr.heap.size 0 (bys Y))
        generalize (wr.alloc (.cells ZH 33)).setCells wr.heap.size 0 (bys Y) = w1 at *
        have HRY := Lib.hid bkY.range
        have HRC := Lib.hid hcl1.want.range
        go_wp2_with (first
          | (refine wpList_load_mid rfl 33 (.tmp 7) rfl gw 0 rfl (bys C) _ HRC.out Tryd.underlying33 rfl HSC.out ?_)
          | (refine wpList_load_mid rfl 33 (.tmp 9) rfl wr.heap.size 0 rfl (bys Y) _ HRY.out Tryd.underlying33 rfl HSY.out ?_))
        refine (pairs_any C Y HCI.out HY.out w1 (HT.out.below hcl1.below HT.out.1)).mono ?_
        rintro e w2 ⟨rfl, hb2⟩
        have hB2 := hcl1.below.trans (hb2.mono hcl1.below.size)
        have bx2 := hcl1.box.below hb2 hcl1.box.lt
        have wt2 := hcl1.want.below hb2 hcl1.want.lt
        have hne := hcl1.ne
        have HD := Lib.hid (pr_is C Y)
        generalize pr C Y = D at *
        have HSD := Lib.hid (sizeH D HD.out)
        have hdl : (bys D).length = 32 := by rw [bys_len, HD.out.1]
        have hcll : (bys C).length = 32 := by rw [bys_len, HCI.out.1]
        have HTD := Lib.hid (show w2.there gw 0 (bys D).toArray.size by rw [show (bys D).toArray.size = (bys C).toArray.size by simp [hdl, hcll]]; exact wt2.there)
        have HCS2 : Hid (CL w (w2.setCells gw 0 (bys D)) gw x (clm x a bs (j + 1))) := Lib.hid (by
          rw [HST.out]
          exact ⟨bx2.setCells _ _ _ (by omega), wt2.stored (bys D) (by simp [hdl, hcll]), hne, Below.setCells' hB2 _ _ (by omega) _⟩)
        clear hcl1 hb2 hB2 bx2 wt2 hdl hcll bkY HRY HRC HTN
        go_wp2_with (refine wpList_store_mid rfl 33 (.tmp 7) (.tmp 34) rfl gw 0 (bys D).toArray rfl rfl HTD.out (by simpa using HSD.out) (all_oneCell_toArray (bys_one _)) ?_)
        go_roundg (n - (j + 1))
        case measure => have := HK.out; omega
        case rel => exact ⟨j + 1, rfl, by omega, by go_num, HCS2.out⟩
    · have hdec : decide ((j : Int) < (n : Int)) = false := by simp; omega
      have hnj : ¬ j < n := hlt
      obtain rfl : j = n := by omega
      have HCLM := Lib.hid (fun wx hb => climb_any x a A j c bs wx HX.out ((hr.below hb).up hb.size) (by omega) (HT.out.below hb HT.out.1))
      generalize clm x a bs j = C at *
      have HSC := Lib.hid (sizeH C HCI.out)
      have HRC : Hid (∀ wx, Below wr.heap.size wr wx → wx.rangeAt gw 0 (bys C)) := Lib.hid fun wx hb => (hcl.want.below hb hcl.want.lt).range
      have HRX : Hid (∀ wx, Below wr.heap.size wr wx → wx.rangeAt w.heap.size 0 (bys x)) := Lib.hid fun wx hb => (hcl.box.below hb hcl.box.lt).range
      have HBB := Lib.hid hcl.below
      have heq := fun wx => h_eql1 C HCI.out wx
      have hgd := fun wx => run_eqGuard_agg (P := Tryd.prog) wx .eql 33 (.tmp 39) (.tmp 40) (bys C).toArray (bys C).toArray Tryd.eqg33
      clear hcl
      go_wp2_with fail
      refine wp_region_noPanic ?_
      refine wp_region_held_drew (S := (fun wx => Below wr.heap.size wr wx)) (by kernel_rfl) (Below.drew' (Below.refl _ _)) (fun hHeld => ?_)
      refine wpAnyH_take (i := 0) (v := .agg (bys x).toArray) (by simp only [List.getElem?_toArray, List.getElem?_cons_succ, List.getElem?_cons_zero]; rfl) (by kernel_rfl) (by kernel_rfl) (by kernel_rfl) (fun _ _ _ h => h) (yieldsIf_load_mid (by rfl) 33 (.tmp 3) rfl w.heap.size (0) rfl (bys x) _ (fun wx hx => HRX.out wx hx) Tryd.underlying33 rfl (HSX.out)) (by assumption) ?_
      (try simp only [Act.put, List.setIfInBounds_toArray, List.set_cons_zero, List.set_cons_succ])
      refine wpAnyH_take (i := 1) (v := ?_) (by simp only [List.getElem?_toArray, List.getElem?_cons_succ, List.getElem?_cons_zero]; rfl) (by kernel_rfl) (by kernel_rfl) (by kernel_rfl) (fun _ _ _ h => h) (Or.inl ⟨by rfl, ?_⟩) (by assumption) ?_
      rotate_left
      · (intro w hSw; (try dsimp only at hSw); go_simp; (try with_reducible rfl))
      (try simp only [Act.put, List.setIfInBounds_toArray, List.set_cons_zero, List.set_cons_succ])
      refine wpAnyH_take (i := 2) (v := ?_) (by simp only [List.getElem?_toArray, List.getElem?_cons_succ, List.getElem?_cons_zero]; rfl) (by kernel_rfl) (by kernel_rfl) (by kernel_rfl) (fun _ _ _ h => h) (Or.inl ⟨by rfl, ?_⟩) (by assumption) ?_
      rotate_left
      · (intro w hSw; (try dsimp only at hSw); go_simp; (try with_reducible rfl))
      (try simp only [Act.put, List.setIfInBounds_toArray, List.set_cons_zero, List.set_cons_succ])
      refine wpAnyH_take (i := 4) (v := .agg (bys C).toArray) (by simp only [List.getElem?_toArray, List.getElem?_cons_succ, List.getElem?_cons_zero]; rfl) (by kernel_rfl) (by kernel_rfl) (by kernel_rfl) (fun _ _ _ h => h) (yieldsIf_load_mid (by rfl) 33 (.tmp 7) rfl gw (0) rfl (bys C) _ (fun wx hx => HRC.out wx hx) Tryd.underlying33 rfl (HSC.out)) (by assumption) ?_
      (try simp only [Act.put, List.setIfInBounds_toArray, List.set_cons_zero, List.set_cons_succ])
      refine wpAnyH_ready (rs := [3]) (by kernel_rfl) (by simp) ?_
      refine AllReadyH.cons (by simp only [List.getElem?_toArray, List.getElem?_cons_succ, List.getElem?_cons_zero]; rfl) (fun K hK => ?_) AllReadyH.nil
      go_simp
      refine (HCLM.out _ (HBB.out.trans (hHeld.mono hs1))).mono ?_
      rintro ee v1 ⟨rfl, hb_v1⟩
      have hc_v1 := hHeld.trans (hb_v1.mono hHeld.size)
      refine hK.out _ _ ?_ (fun hHeld => ?_)
      · exact hc_v1
      clear hK K
      (try simp only [Act.put, List.setIfInBounds_toArray, List.set_cons_zero, List.set_cons_succ])
      refine wpAnyH_take (i := 5) (v := .bool true) (by simp only [List.getElem?_toArray, List.getElem?_cons_succ, List.getElem?_cons_zero]; rfl) (by kernel_rfl) (by kernel_rfl) (by kernel_rfl) (fun _ _ _ h => h) (Or.inl ⟨by rfl, ?_⟩) (by assumption) ?_
      · (intro w hSw; (try dsimp only at hSw); go_simp; skip)
      (try simp only [Act.put, List.setIfInBounds_toArray, List.set_cons_zero, List.set_cons_succ])
      refine wpAnyH_take (i := 6) (v := ?_) (by simp only [List.getElem?_toArray, List.getElem?_cons_succ, List.getElem?_cons_zero]; rfl) (by kernel_rfl) (by kernel_rfl) (by kernel_rfl) (fun _ _ _ h => h) (Or.inl ⟨by rfl, ?_⟩) (by assumption) ?_
      rotate_left
      · (intro w hSw; (try dsimp only at hSw); go_simp; (try with_reducible rfl))
      (try simp only [Act.put, List.setIfInBounds_toArray, List.set_cons_zero, List.set_cons_succ])
      refine wpAnyH_done (by kernel_rfl) ?_ _
      refine NoPanic.normal ?_
      have hfin := HBB.out.trans (hHeld.mono hs1)
      clear heq hgd
      go_wp2_with fail
      go_ret
      exact ⟨rfl, hfin⟩
end Go.Proofs.YtnlmejpimjjaaaaDoor
