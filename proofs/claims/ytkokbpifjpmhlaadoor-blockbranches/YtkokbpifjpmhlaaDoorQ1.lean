/- The reference: its Pair. -/
import Derived.Test.YtkokbpifjpmhlaaDoorB5
import Derived.Test.YtkokbpifjpmhlaaDoorR6
import Derived.Test.YtkokbpifjpmhlaaDoorRefA
namespace Go.Proofs.YtkokbpifjpmhlaaDoor
set_option linter.unusedSimpArgs false
set_option linter.unusedVariables false
open Go.RowKit

theorem sizeB (x : List Nat) (h : IsH x) : (Tryd.prog.info? 22).map (·.size) = some (bys x).length := by rw [bys_len, h.1]; exact Tryd.size22
theorem four_boxes (w : World) (a b c d : Array Value) (ta tb tc td : TypeId) : ∃ W, W = (((w.alloc (.cells a ta)).alloc (.cells b tb)).alloc (.cells c tc)).alloc (.cells d td) ∧ Below w.heap.size w W ∧ W.heap.size = w.heap.size + 1 + 1 + 1 + 1 ∧ Blk W w.heap.size ta a ∧ Blk W (w.heap.size + 1) tb b ∧ Blk W (w.heap.size + 1 + 1) tc c ∧ Blk W (w.heap.size + 1 + 1 + 1) td d := by
  refine ⟨_, rfl, ((((Below.refl _ _).alloc (Nat.le_refl _) _).alloc (by simp) _).alloc (by simp; omega) _).alloc (by simp; omega) _, by simp, ?_, ?_, ?_, ?_⟩
  · exact (((Blk.new w ta a).alloc _).alloc _).alloc _
  · have := ((Blk.new (w.alloc (.cells a ta)) tb b).alloc (.cells c tc)).alloc (.cells d td)
    simpa using this
  · have := (Blk.new ((w.alloc (.cells a ta)).alloc (.cells b tb)) tc c).alloc (.cells d td)
    simpa using this
  · have := Blk.new (((w.alloc (.cells a ta)).alloc (.cells b tb)).alloc (.cells c tc)) td d
    simpa using this

set_option maxHeartbeats 1000000 in
set_option maxRecDepth 100000 in
theorem refpair_any (TB : List Int) (eTB : TAB = TB) (x y : List Nat) (hx : IsH x) (hy : IsH y) (w : World) :
    Calls Tryd.prog 36 #[.agg (us TB).toArray, .agg (bys x).toArray, .agg (bys y).toArray] w fun e w' => e = .returned (.agg (bys (pr x y)).toArray) ∧ Below w.heap.size w w' := by
  obtain ⟨i5, hi5, hz0, hz1, hz2⟩ := info_parts Tryd.info5
  have HX := Lib.hid hx
  have HY := Lib.hid hy
  have lx : (bys x).length = 32 := by rw [bys_len, hx.1]
  have ly : (bys y).length = 32 := by rw [bys_len, hy.1]
  have tbl : (us TB).length = 72 := by rw [us_len, ← eTB]; decide
  have HREF := Lib.hid (fun (A : Option Addr) (n c : Nat) (bs : List Nat) (w : World) (hr : Rd w w.heap.size A n (bys bs)) (hb : ∀ c ∈ bs, c < 256) (hn : (n : Int) ≤ 100000000) =>
    show Calls Tryd.prog 39 #[.agg (us TB).toArray, .slice A n c] w fun e w' => e = .returned (.agg (bys (dg bs)).toArray) ∧ Below w.heap.size w w' by rw [← eTB]; exact ref_any A n c bs w hr hb hn)
  have HZT := Lib.hid (show (Tryd.prog.info? 47).map (·.size) = some (us TB).length by rw [tbl]; exact Tryd.size47)
  clear eTB tbl
  obtain ⟨W, eW, hBW, sW, kt, kx, ky, kr⟩ := four_boxes w (us TB).toArray (bys x).toArray (bys y).toArray ZH 47 22 22 22
  have HEW := Lib.hid eW
  clear sW
  have HPR : Hid (pr x y = dg (dg (x ++ y))) := Lib.hid rfl
  rw [HPR.out]
  clear eW hx hy
  go_enter Tryd.func36, Tryd.ntmps36
  go_wp2_with (first | (refine wpList_of_wp rfl fun K hK => wp_alloc_arr 22 rfl ZH Tryd.zero22 (hK _ _ ?_); (try simp only [World.size_alloc])))
  rw [← HEW.out]
  have rx := fun wx (hb : Below W.heap.size W wx) => ((kx.below hb kx.lt).rd 32 lx)
  have ry := fun wx (hb : Below W.heap.size W wx) => ((ky.below hb ky.lt).rd 32 ly)
  have HRX := Lib.hid rx
  have HRY := Lib.hid ry
  clear rx ry
  refine wp_region_noPanic ?_
  refine wp_region_held_drew (S := (fun wx => Below W.heap.size W wx)) (by kernel_rfl) (Below.drew' (Below.refl _ _)) (fun hHeld => ?_)
  refine wpAnyH_take (i := 1) (v := ?_) (by simp only [List.getElem?_toArray, List.getElem?_cons_succ, List.getElem?_cons_zero]; rfl) (by kernel_rfl) (by kernel_rfl) (by kernel_rfl) (fun _ _ _ h => h) (Or.inl ⟨by rfl, ?_⟩) (by assumption) ?_
  rotate_left
  · (intro w hSw; (try dsimp only at hSw); go_simp; (try with_reducible rfl))
  (try simp only [Act.put, List.setIfInBounds_toArray, List.set_cons_zero, List.set_cons_succ])
  refine wpAnyH_take (i := 3) (v := ?_) (by simp only [List.getElem?_toArray, List.getElem?_cons_succ, List.getElem?_cons_zero]; rfl) (by kernel_rfl) (by kernel_rfl) (by kernel_rfl) (fun _ _ _ h => h) (Or.inl ⟨by rfl, ?_⟩) (by assumption) ?_
  rotate_left
  · (intro w hSw; (try dsimp only at hSw); go_simp; (try with_reducible rfl))
  (try simp only [Act.put, List.setIfInBounds_toArray, List.set_cons_zero, List.set_cons_succ])
  refine wpAnyH_ready (rs := [0]) (by kernel_rfl) (by simp) ?_
  refine AllReadyH.cons (by simp only [List.getElem?_toArray, List.getElem?_cons_succ, List.getElem?_cons_zero]; rfl) (fun K hK => ?_) AllReadyH.nil
  go_simp
  have hB1 : Below W.heap.size W (W.alloc (.cells #[] 5)).drew := hHeld.alloc (Nat.le_refl _) _
  refine hK.out _ _ ?_ (fun hHeld => ?_)
  · exact hB1
  clear hK K
  (try simp only [Act.put, List.setIfInBounds_toArray, List.set_cons_zero, List.set_cons_succ])
  have bf0 : Buf (W.alloc (.cells #[] 5)).drew W.heap.size (.slice (some ⟨W.heap.size, 0, none⟩) 0 0) 0 [] := Buf.new W W.heap.size 5 #[] (0, 0) (Nat.le_refl _) (by unfold maxLen; simp)
  obtain ⟨v2, w2, run2, bf2, g2, _⟩ := run_append_buf (P := Tryd.prog) _ W.heap.size 27 27 5 i5 (.int .u8 0) 1 Tryd.underlying27 hi5 hz0 hz1 hz2 rfl bf0 (HRX.out _ hB1) (c := 32) (bys_one _) (by unfold maxLen; omega) (by omega) hB1.size
  have hB2 : Below W.heap.size W w2 := hB1.grown g2 hB1.size (fun k hk => (bf0.lt k hk).1)
  refine wpAnyH_ready (rs := [2]) (by kernel_rfl) (by simp) ?_
  refine AllReadyH.cons (by simp only [List.getElem?_toArray, List.getElem?_cons_succ, List.getElem?_cons_zero]; rfl) (fun K hK => ?_) AllReadyH.nil
  refine operwp_append_run rfl (.tmp 9) (.tmp 10) 27 rfl rfl rfl run2 ?_
  refine hK.out _ _ ?_ (fun hHeld => ?_)
  · exact hB2
  clear hK K
  (try simp only [Act.put, List.setIfInBounds_toArray, List.set_cons_zero, List.set_cons_succ])
  obtain ⟨v3, w3, run3, bf3, g3, _⟩ := run_append_buf (P := Tryd.prog) _ W.heap.size 27 27 5 i5 (.int .u8 0) 1 Tryd.underlying27 hi5 hz0 hz1 hz2 rfl bf2 (HRY.out _ hB2) (c := 32) (bys_one _) (by unfold maxLen; omega) (by omega) hB2.size
  have hB3 : Below W.heap.size W w3 := hB2.grown g3 hB2.size (fun k hk => (bf2.lt k hk).1)
  refine wpAnyH_ready (rs := [4]) (by kernel_rfl) (by simp) ?_
  refine AllReadyH.cons (by simp only [List.getElem?_toArray, List.getElem?_cons_succ, List.getElem?_cons_zero]; rfl) (fun K hK => ?_) AllReadyH.nil
  refine operwp_append_run rfl (.tmp 11) (.tmp 12) 27 rfl rfl rfl run3 ?_
  refine hK.out _ _ ?_ (fun hHeld => ?_)
  · exact hB3
  clear hK K
  (try simp only [Act.put, List.setIfInBounds_toArray, List.set_cons_zero, List.set_cons_succ])
  refine wpAnyH_take (i := 5) (v := ?_) (by simp only [List.getElem?_toArray, List.getElem?_cons_succ, List.getElem?_cons_zero]; rfl) (by kernel_rfl) (by kernel_rfl) (by kernel_rfl) (fun _ _ _ h => h) (Or.inl ⟨by rfl, ?_⟩) (by assumption) ?_
  rotate_left
  · (intro w hSw; (try dsimp only at hSw); go_simp; (try with_reducible rfl))
  (try simp only [Act.put, List.setIfInBounds_toArray, List.set_cons_zero, List.set_cons_succ])
  refine wpAnyH_done (by kernel_rfl) ?_ _
  refine NoPanic.normal ?_
  rw [List.nil_append, ← bys_app, show 0 + 32 + 32 = 64 from rfl] at bf3
  obtain ⟨A3, c3, rfl, hc3, hr3⟩ := bf3.slice
  have kt3 := kt.below hB3 kt.lt
  have kr3 := kr.below hB3 kr.lt
  have HRT := Lib.hid kt3.range
  have s3 := hB3.size
  have hB03 := hBW.trans (hB3.mono hBW.size)
  clear hHeld run2 run3 g2 g3 bf0 bf2 bf3 hB1 hB2 HRX HRY kx ky kt kr
  go_wp2_with (refine wpList_load_mid rfl 47 (.tmp 3) rfl w.heap.size 0 rfl (us TB) _ HRT.out Tryd.underlying47 rfl HZT.out ?_)
  refine (HREF.out A3 64 c3 (x ++ y) w3 hr3 (fun c hc => (List.mem_append.1 hc).elim (HX.out.2 c) (HY.out.2 c)) (by omega)).mono ?_
  rintro e w4 ⟨rfl, hb4⟩
  have hB4 := hB03.trans (hb4.mono hB03.size)
  have kt4 := kt3.below hb4 kt3.lt
  have kr4 := kr3.below hb4 kr3.lt
  have s4 := hB4.size
  have HD : Hid (IsH (dg (x ++ y))) := Lib.hid ⟨dg_len _, dg_lt _⟩
  generalize hDe : dg (x ++ y) = D at *
  have HDE := Lib.hid hDe
  have HSD := Lib.hid (sizeB D HD.out)
  have hdl : (bys D).length = 32 := by rw [bys_len, HD.out.1]
  have HTN := Lib.hid (there_new w4 ZH 22 (bys D).toArray.size (by rw [ZH_size]; simp [hdl]))
  have hb5 : Below w4.heap.size w4 ((w4.alloc (.cells ZH 22)).setCells w4.heap.size 0 (bys D)) := Below.setCells' ((Below.refl _ _).alloc (Nat.le_refl _) _) _ _ (Nat.le_refl _) _
  have kd5 : Blk ((w4.alloc (.cells ZH 22)).setCells w4.heap.size 0 (bys D)) w4.heap.size 22 (bys D).toArray := (Blk.new w4 22 ZH).stored (bys D) (by rw [ZH_size, hdl])
  have kt5 := kt4.below hb5 kt4.lt
  have kr5 := kr4.below hb5 kr4.lt
  have hB5 := hB4.trans (hb5.mono s4)
  clear kt3 kr3 hb4 hr3 HRT hDe kt4 kr4 hb5 hB4 hB3 hB03
  go_upto_region 3 with (first
    | (refine wpList_of_wp rfl fun K hK => wp_alloc_arr 22 rfl ZH Tryd.zero22 (hK _ _ ?_))
    | (refine wpList_store_mid rfl 22 (.tmp 8) (.tmp 16) rfl w4.heap.size 0 (bys D).toArray rfl rfl HTN.out (by simpa using HSD.out) (all_oneCell_toArray (bys_one _)) ?_))
  change Code.wp _ _ _ _ ((w4.alloc (.cells ZH 22)).setCells w4.heap.size 0 (bys D))
  generalize (w4.alloc (.cells ZH 22)).setCells w4.heap.size 0 (bys D) = w5 at *
  generalize w4.heap.size = g5 at *
  have HXT : Hid (∀ wx, Below w5.heap.size w5 wx → wx.rangeAt w.heap.size 0 (us TB)) := Lib.hid fun wx hb => (kt5.below hb kt5.lt).range
  have HXD : Hid (∀ wx, Below w5.heap.size w5 wx → Rd wx wx.heap.size (some ⟨g5, 0, none⟩) 32 (bys D)) := Lib.hid fun wx hb => (kd5.below hb kd5.lt).rd 32 hdl
  have HKR : Hid (∀ wx, Below w5.heap.size w5 wx → Blk wx (w.heap.size + 1 + 1 + 1) 22 ZH) := Lib.hid fun wx hb => kr5.below hb kr5.lt
  have HKT : Hid (∀ wx, Below w5.heap.size w5 wx → Blk wx w.heap.size 47 (us TB).toArray) := Lib.hid fun wx hb => kt5.below hb kt5.lt
  clear HTN kd5 kt5 kr5
  have kt5' := HKT.out w5 (Below.refl _ _)
  have s5 := hB5.size
  refine wp_region_noPanic ?_
  refine wp_region_held_drew (S := (fun wx => Below w.heap.size w wx ∧ wx.rangeAt w.heap.size 0 (us TB))) (by kernel_rfl) (⟨Below.drew' hB5, HXT.out _ (Below.drew' (Below.refl _ _))⟩) (fun hHeld => ?_)
  refine wpAnyH_take (i := 0) (v := .agg (us TB).toArray) (by simp only [List.getElem?_toArray, List.getElem?_cons_succ, List.getElem?_cons_zero]; rfl) (by kernel_rfl) (by kernel_rfl) (by kernel_rfl) (fun _ _ _ h => h) (yieldsIf_load_mid (by rfl) 47 (.tmp 3) rfl w.heap.size (0) rfl (us TB) _ (fun wx hx => hx.2) Tryd.underlying47 rfl (HZT.out)) (by assumption) ?_
  (try simp only [Act.put, List.setIfInBounds_toArray, List.set_cons_zero, List.set_cons_succ])
  refine wpAnyH_take (i := 1) (v := ?_) (by simp only [List.getElem?_toArray, List.getElem?_cons_succ, List.getElem?_cons_zero]; rfl) (by kernel_rfl) (by kernel_rfl) (by kernel_rfl) (fun _ _ _ h => h) (Or.inl ⟨by rfl, ?_⟩) (by assumption) ?_
  rotate_left
  · (intro w hSw; (try dsimp only at hSw); go_simp; (try with_reducible rfl))
  (try simp only [Act.put, List.setIfInBounds_toArray, List.set_cons_zero, List.set_cons_succ])
  refine wpAnyH_ready (rs := [2]) (by kernel_rfl) (by simp) ?_
  refine AllReadyH.cons (by simp only [List.getElem?_toArray, List.getElem?_cons_succ, List.getElem?_cons_zero]; rfl) (fun K hK => ?_) AllReadyH.nil
  go_simp
  refine (HREF.out _ 32 32 D _ (HXD.out _ (Below.drew' (Below.refl _ _))) HD.out.2 (by omega)).mono ?_
  rintro ee w6 ⟨rfl, hb6⟩
  have hB6 := hHeld.1.trans (hb6.mono hHeld.1.size)
  have hB56 : Below w5.heap.size w5 w6 := ⟨hb6.os, hb6.tape, hb6.output, hb6.size, hb6.block⟩
  have kr6 := HKR.out _ hB56
  have kt6 := HKT.out _ hB56
  refine hK.out _ _ ?_ (fun hHeld => ?_)
  · exact ⟨hB6, kt6.range⟩
  clear hK K
  (try simp only [Act.put, List.setIfInBounds_toArray, List.set_cons_zero, List.set_cons_succ])
  have HE : Hid (IsH (dg D)) := Lib.hid ⟨dg_len _, dg_lt _⟩
  generalize hEe : dg D = E at *
  have HEE := Lib.hid hEe
  have HSE := Lib.hid (sizeB E HE.out)
  have hel : (bys E).length = 32 := by rw [bys_len, HE.out.1]
  have HTE := Lib.hid (show w6.there (w.heap.size + 1 + 1 + 1) 0 (bys E).toArray.size by rw [show (bys E).toArray.size = ZH.size by rw [ZH_size]; simp [hel]]; exact kr6.there)
  have hB7 : Below w.heap.size w (w6.setCells (w.heap.size + 1 + 1 + 1) 0 (bys E)) := Below.setCells' hB6 _ _ (by omega) _
  have kt7 := kt6.setCells (w.heap.size + 1 + 1 + 1) 0 (bys E) (by omega)
  refine wpAnyH_ready (rs := [3]) (by kernel_rfl) (by simp) ?_
  refine AllReadyH.cons (by simp only [List.getElem?_toArray, List.getElem?_cons_succ, List.getElem?_cons_zero]; rfl) (fun K hK => ?_) AllReadyH.nil
  refine (if_pos rfl).mpr (wp_store_mid 22 (.tmp 6) (.tmp 19) rfl (w.heap.size + 1 + 1 + 1) 0 (bys E).toArray rfl rfl HTE.out (by simpa using HSE.out) (all_oneCell_toArray (bys_one _)) ?_)
  refine hK.out _ _ ?_ (fun hHeld => ?_)
  · exact ⟨hB7, kt7.range⟩
  clear hK K
  (try simp only [Act.put, List.setIfInBounds_toArray, List.set_cons_zero, List.set_cons_succ])
  refine wpAnyH_done (by kernel_rfl) ?_ _
  refine NoPanic.normal ?_
  go_wp2_with fail
  exact bodyPost_ret (results_arr rfl _ _ (w.heap.size + 1 + 1 + 1) (bys E) _ rfl (World.rangeAt_setCells_same _ _ _ _ (by simpa using HTE.out)) Tryd.underlying22 rfl HSE.out) rfl ⟨by rw [HDE.out, HEE.out], hB7⟩
end Go.Proofs.YtkokbpifjpmhlaaDoor
