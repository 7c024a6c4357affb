/- A climb. -/
import Derived.Test.YtkokbpifjpmhlaaDoorB3
namespace Go.Proofs.YtkokbpifjpmhlaaDoor
set_option linter.unusedSimpArgs false
set_option linter.unusedVariables false
open Go.RowKit

/-- From a digest on, with each of a branch in turn. -/
def clm (x : List Nat) (a : Int) (bs : List (List Nat)) : Nat → List Nat
  | 0 => x
  | j + 1 => if a / 2 ^ j % 2 = 1 then pr (bs.getD j []) (clm x a bs j) else pr (clm x a bs j) (bs.getD j [])
theorem clm_is (x : List Nat) (a : Int) (bs : List (List Nat)) (hx : IsH x) : ∀ j, IsH (clm x a bs j)
  | 0 => hx
  | j + 1 => by rw [clm]; split <;> exact pr_is _ _
structure CS (w wr : World) (C : List Nat) : Prop where
  box : Blk wr w.heap.size 23 (bys C).toArray
  res : Blk wr (w.heap.size + 1) 23 ZH
  below : Below w.heap.size w wr

set_option maxHeartbeats 2000000 in
set_option maxRecDepth 100000 in
theorem climb_any (x : List Nat) (a : Int) (A : Option Addr) (n c : Nat) (bs : List (List Nat)) (w : World) (hx : IsH x) (hr : RH w w.heap.size A n bs) (hn : (n : Int) ≤ 100000) (ht : TabAt w) :
    Calls Tryd.prog 15 #[.agg (bys x).toArray, .int .i64 a, .slice A n c] w fun e w' => e = .returned (.agg (bys (clm x a bs n)).toArray) ∧ Below w.heap.size w w' := by
  have HT := Lib.hid ht
  have HL := Lib.hid hr.len
  have HX := Lib.hid hx
  have hcs0 : CS w ((w.alloc (.cells (bys x).toArray 23)).alloc (.cells ZH 23)) x := ⟨heap_alloc2_old w _ _, heap_alloc2_new w _ _, ((Below.refl _ _).alloc (Nat.le_refl _) _).alloc (by simp) _⟩
  clear ht hx
  go_enter Tryd.func15, Tryd.ntmps15
  go_wp2_with (first | (refine wpList_of_wp rfl fun K hK => wp_alloc_arr 23 rfl ZH Tryd.zero23 (hK _ _ ?_)))
  (try simp only [World.size_alloc])
  generalize (w.alloc (.cells (bys x).toArray 23)).alloc (.cells ZH 23) = w0 at *
  go_loopg [1, 11] n (fun k av i wr => ∃ (j : Nat) (b : Int), k = n - j ∧ j ≤ n ∧ i = .int .i64 (j : Int) ∧ av = .int .i64 b ∧ Hid (b = a / 2 ^ j) ∧ CS w wr (clm x a bs j))
  case atStart => exact ⟨0, a, rfl, Nat.zero_le _, rfl, rfl, Lib.hid (by simp), hcs0⟩
  case round =>
    obtain ⟨j, b, hk, hj, rfl, rfl, HBJ, hcs⟩ := hrel
    have HK := Lib.hid hk
    have HCI := Lib.hid (clm_is x a bs HX.out j)
    clear hk hcs0
    have hs1 := hcs.below.size
    by_cases hlt : j < n
    · have hlt' : (j : Int) < (n : Int) := by omega
      obtain ⟨g, off, rfl, hg, hx1⟩ := hr.elem j hlt
      have HY := Lib.hid (hr.isAt j hlt)
      have HX1 := Lib.hid (rangeAt_below hx1 hcs.below hg)
      have HST : Hid (clm x a bs (j + 1) = if b % 2 = 1 then pr (bs.getD j []) (clm x a bs j) else pr (clm x a bs j) (bs.getD j [])) := Lib.hid (by rw [clm, HBJ.out])
      have HB2 : Hid (b / 2 = a / 2 ^ (j + 1)) := Lib.hid (by rw [HBJ.out, Int.ediv_ediv_of_nonneg (by exact Int.pow_nonneg (by decide)), Int.pow_succ])
      have hnext : ∀ C', clm x a bs (j + 1) = C' → clm x a bs (j + 1) = C' := fun _ h => h
      generalize hC : clm x a bs j = C at *
      generalize bs.getD j [] = Y at *
      have HSY := Lib.hid (sizeH Y HY.out)
      have HSC := Lib.hid (sizeH C HCI.out)
      have hyl : (bys Y).length = 32 := by rw [bys_len, HY.out.1]
      have HTN := Lib.hid (there_new wr ZH 23 (bys Y).toArray.size (by rw [ZH_size]; simp [hyl]))
      have hb1 : Below wr.heap.size wr ((wr.alloc (.cells ZH 23)).setCells wr.heap.size 0 (bys Y)) := Below.setCells' ((Below.refl _ _).alloc (Nat.le_refl _) _) _ _ (Nat.le_refl _) _
      have bkY : Blk ((wr.alloc (.cells ZH 23)).setCells wr.heap.size 0 (bys Y)) wr.heap.size 23 (bys Y).toArray := (Blk.new wr 23 ZH).stored (bys Y) (by rw [ZH_size, hyl])
      have hcs1 : CS w ((wr.alloc (.cells ZH 23)).setCells wr.heap.size 0 (bys Y)) C := ⟨hcs.box.below hb1 hcs.box.lt, hcs.res.below hb1 hcs.res.lt, hcs.below.trans (hb1.mono hs1)⟩
      clear hx1 hC hnext hb1 hcs hyl
      obtain ⟨gy, hgy⟩ : ∃ gy, gy = wr.heap.size := ⟨_, rfl⟩
      by_cases hodd : b % 2 = 1
      · have hbit : bits .and .i64 b 1 = 1 := by rw [i64_and1, hodd]
        rw [if_pos hodd] at HST
        go_upto_region 5 with (first
          | (refine wpList_load_mid rfl 23 (.tmp 13) rfl g (off + j * 32) rfl (bys Y) _ HX1.out Tryd.underlying23 rfl HSY.out ?_)
          | (refine wpList_of_wp rfl fun K hK => wp_alloc_arr 23 rfl ZH Tryd.zero23 (hK _ _ ?_))
          | (refine wpList_store_mid rfl 23 (.tmp 8) (.tmp 14) rfl wr.heap.size 0 (bys Y).toArray rfl rfl HTN.out (by simpa using HSY.out) (all_oneCell_toArray (bys_one _)) ?_))
        change Code.wp _ _ _ _ ((wr.alloc (.cells ZH 23)).setCells wr.heap.size 0 (bys Y))
        generalize (wr.alloc (.cells ZH 23)).setCells wr.heap.size 0 (bys Y) = w1 at *
        have HRY := Lib.hid bkY.range
        have HRC := Lib.hid hcs1.box.range
        go_wp2_with (first
          | (refine wpList_load_mid rfl 23 (.tmp 8) rfl wr.heap.size 0 rfl (bys Y) _ HRY.out Tryd.underlying23 rfl HSY.out ?_)
          | (refine wpList_load_mid rfl 23 (.tmp 3) rfl w.heap.size 0 rfl (bys C) _ HRC.out Tryd.underlying23 rfl HSC.out ?_))
        refine (pairs_any Y C HY.out HCI.out w1 (HT.out.below hcs1.below HT.out.1)).mono ?_
        rintro e w2 ⟨rfl, hb2⟩
        have hB2 := hcs1.below.trans (hb2.mono hcs1.below.size)
        have bx2 := hcs1.box.below hb2 hcs1.box.lt
        have rs2 := hcs1.res.below hb2 hcs1.res.lt
        have HD := Lib.hid (pr_is Y C)
        generalize pr Y C = D at *
        have HSD := Lib.hid (sizeH D HD.out)
        have hdl : (bys D).length = 32 := by rw [bys_len, HD.out.1]
        have hcl : (bys C).length = 32 := by rw [bys_len, HCI.out.1]
        have HTD := Lib.hid (show w2.there w.heap.size 0 (bys D).toArray.size by rw [show (bys D).toArray.size = (bys C).toArray.size by simp [hdl, hcl]]; exact bx2.there)
        have HCS2 : Hid (CS w (w2.setCells w.heap.size 0 (bys D)) (clm x a bs (j + 1))) := Lib.hid (by
          rw [HST.out]
          exact ⟨bx2.stored (bys D) (by simp [hdl, hcl]), rs2.setCells _ _ _ (by omega), Below.setCells' hB2 _ _ (Nat.le_refl _) _⟩)
        clear hcs1 hb2 hB2 bx2 rs2 hdl hcl bkY HRY HRC HTN
        go_wp2_with (refine wpList_store_mid rfl 23 (.tmp 3) (.tmp 20) rfl w.heap.size 0 (bys D).toArray rfl rfl HTD.out (by simpa using HSD.out) (all_oneCell_toArray (bys_one _)) ?_)
        go_roundg (n - (j + 1))
        case measure => have := HK.out; omega
        case rel => exact ⟨j + 1, b / 2, rfl, by omega, by go_num, rfl, HB2, HCS2.out⟩
      · have hbit : bits .and .i64 b 1 = 0 := by rw [i64_and1]; omega
        rw [if_neg hodd] at HST
        go_upto_region 6 with (first
          | (refine wpList_load_mid rfl 23 (.tmp 13) rfl g (off + j * 32) rfl (bys Y) _ HX1.out Tryd.underlying23 rfl HSY.out ?_)
          | (refine wpList_of_wp rfl fun K hK => wp_alloc_arr 23 rfl ZH Tryd.zero23 (hK _ _ ?_))
          | (refine wpList_store_mid rfl 23 (.tmp 8) (.tmp 14) rfl wr.heap.size 0 (bys Y).toArray rfl rfl HTN.out (by simpa using HSY.out) (all_oneCell_toArray (bys_one _)) ?_))
        change Code.wp _ _ _ _ ((wr.alloc (.cells ZH 23)).setCells wr.heap.size 0 (bys Y))
        generalize (wr.alloc (.cells ZH 23)).setCells wr.heap.size 0 (bys Y) = w1 at *
        have HRY := Lib.hid bkY.range
        have HRC := Lib.hid hcs1.box.range
        go_wp2_with (first
          | (refine wpList_load_mid rfl 23 (.tmp 3) rfl w.heap.size 0 rfl (bys C) _ HRC.out Tryd.underlying23 rfl HSC.out ?_)
          | (refine wpList_load_mid rfl 23 (.tmp 8) rfl wr.heap.size 0 rfl (bys Y) _ HRY.out Tryd.underlying23 rfl HSY.out ?_))
        refine (pairs_any C Y HCI.out HY.out w1 (HT.out.below hcs1.below HT.out.1)).mono ?_
        rintro e w2 ⟨rfl, hb2⟩
        have hB2 := hcs1.below.trans (hb2.mono hcs1.below.size)
        have bx2 := hcs1.box.below hb2 hcs1.box.lt
        have rs2 := hcs1.res.below hb2 hcs1.res.lt
        have HD := Lib.hid (pr_is C Y)
        generalize pr C Y = D at *
        have HSD := Lib.hid (sizeH D HD.out)
        have hdl : (bys D).length = 32 := by rw [bys_len, HD.out.1]
        have hcl : (bys C).length = 32 := by rw [bys_len, HCI.out.1]
        have HTD := Lib.hid (show w2.there w.heap.size 0 (bys D).toArray.size by rw [show (bys D).toArray.size = (bys C).toArray.size by simp [hdl, hcl]]; exact bx2.there)
        have HCS2 : Hid (CS w (w2.setCells w.heap.size 0 (bys D)) (clm x a bs (j + 1))) := Lib.hid (by
          rw [HST.out]
          exact ⟨bx2.stored (bys D) (by simp [hdl, hcl]), rs2.setCells _ _ _ (by omega), Below.setCells' hB2 _ _ (Nat.le_refl _) _⟩)
        clear hcs1 hb2 hB2 bx2 rs2 hdl hcl bkY HRY HRC HTN
        go_wp2_with (refine wpList_store_mid rfl 23 (.tmp 3) (.tmp 23) rfl w.heap.size 0 (bys D).toArray rfl rfl HTD.out (by simpa using HSD.out) (all_oneCell_toArray (bys_one _)) ?_)
        go_roundg (n - (j + 1))
        case measure => have := HK.out; omega
        case rel => exact ⟨j + 1, b / 2, rfl, by omega, by go_num, rfl, HB2, HCS2.out⟩
    · have hdec : decide ((j : Int) < (n : Int)) = false := by simp; omega
      have hnj : ¬ j < n := hlt
      obtain rfl : j = n := by omega
      generalize hC : clm x a bs j = C at *
      have HC := Lib.hid hC
      clear hC
      have HSC := Lib.hid (sizeH C HCI.out)
      have HRC := Lib.hid hcs.box.range
      have hcl : (bys C).toArray.size = 32 := by simp [bys_len, HCI.out.1]
      have HTD := Lib.hid (show wr.there (w.heap.size + 1) 0 (bys C).toArray.size by rw [hcl]; exact hcs.res.there)
      have HBB := Lib.hid hcs.below
      clear hcl hcs
      go_wp2_with (first
        | (refine wpList_load_mid rfl 23 (.tmp 3) rfl w.heap.size 0 rfl (bys C) _ HRC.out Tryd.underlying23 rfl HSC.out ?_)
        | (refine wpList_store_mid rfl 23 (.tmp 6) (.tmp 27) rfl (w.heap.size + 1) 0 (bys C).toArray rfl rfl HTD.out (by simpa using HSC.out) (all_oneCell_toArray (bys_one _)) ?_))
      exact bodyPost_ret (results_arr rfl _ _ (w.heap.size + 1) (bys C) _ rfl (World.rangeAt_setCells_same _ _ _ _ (by simpa using HTD.out)) Tryd.underlying23 rfl HSC.out) rfl ⟨by rw [HC.out], Below.setCells' HBB.out _ _ (by omega) _⟩
end Go.Proofs.YtkokbpifjpmhlaaDoor
