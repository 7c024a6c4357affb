/- The law's head: the document's example. -/
import Derived.Test.YtkokbpifjpmhlaaDoorB4
namespace Go.Proofs.YtkokbpifjpmhlaaDoor
set_option linter.unusedSimpArgs false
set_option linter.unusedVariables false
open Go.RowKit

theorem lit_hashes (w : World) (n : Nat) (xs : List (List Nat)) (hn : xs.length = n) (h0 : 0 < n) (hb : n ≤ 1000) (hx : ∀ x ∈ xs, IsH x) (parts : Array (Nat × Value)) (hp : parts.toList = (xs.zipIdx 0).map fun (x : List Nat × Nat) => (x.2, Value.agg (bys x.1).toArray)) :
    (Instr.buildSlice 39 n parts).run Tryd.prog w = .ok (.slice (some ⟨w.heap.size, 0, none⟩) n n) (w.alloc (.cells (flatH xs).toArray 23)) := by
  obtain ⟨i0, hi, hz0, hz1, hz2⟩ := info_parts Tryd.info23
  have := run_buildSlice_rows (P := Tryd.prog) w 39 23 i0 _ 32 Tryd.underlying39 hi hz0 hz1 (by omega) n (xs.map bys) (by simpa using hn) h0 (by intro c hc; obtain ⟨x, hx', rfl⟩ := List.mem_map.1 hc; rw [bys_len, (hx x hx').1]) (by omega) parts (by
    rw [hp, List.zipIdx_map, List.map_map]
    rfl)
  rw [this, flatH, List.flatMap_def]
theorem RH.new (w : World) (n : Nat) (xs : List (List Nat)) (hn : xs.length = n) (hx : ∀ x ∈ xs, IsH x) : RH (w.alloc (.cells (flatH xs).toArray 23)) (w.alloc (.cells (flatH xs).toArray 23)).heap.size (some ⟨w.heap.size, 0, none⟩) n xs :=
  ⟨hn, hx, by
    have := RdN.new w 32 n (flatH xs) 23 (0, 0) (by rw [flatH_len xs hx, hn])
    simpa using this⟩
theorem Tryd.cells5 : Tryd.prog.cellsOf 5 = 1 := by kernel_rfl
theorem Tryd.eqg23 : Tryd.prog.eqGuardType Tryd.prog.depth 23 = false := by kernel_rfl
theorem Tryd.some5 : ∃ i, Tryd.prog.info? 5 = some i := by
  obtain ⟨i, hi, _⟩ := info_parts Tryd.info5
  exact ⟨i, hi⟩
theorem h_eql (x y : List Nat) (hx : IsH x) (hy : IsH y) (w : World) : (Op.equalIn 10000 23 (.agg (bys x).toArray) (.agg (bys y).toArray)).run Tryd.prog w = .ok (decide (x = y)) w := by
  obtain ⟨i, hi⟩ := Tryd.some5
  exact run_eql_bys (P := Tryd.prog) w 23 5 32 .u8 i Tryd.underlying23 hi Tryd.cells5 Tryd.underlying5 x y hx.1 hy.1
theorem h_eql1 (x : List Nat) (hx : IsH x) (w : World) : (Op.equalIn 10000 23 (.agg (bys x).toArray) (.agg (bys x).toArray)).run Tryd.prog w = .ok true w := by
  have := h_eql x x hx hx w
  simpa using this
def hd (k : Nat) : List Nat := k :: List.replicate 31 0
theorem hd_is (k : Nat) (h : k < 256) : IsH (hd k) := ⟨by simp [hd], fun c hc => by simp [hd] at hc; omega⟩
theorem root2 (a b : List Nat) : root [a, b] = pr a b := by
  rw [root_up [a, b] (by simp), root_one _ (by simp [abv_len]), abv_at _ 0 (by simp)]
  simp
theorem root3 (a b c : List Nat) : root [a, b, c] = pr (pr a b) (pr c c) := by
  have e : abv [a, b, c] = [pr a b, pr c c] := by simp [abv, ups, List.range_succ]
  rw [root_up [a, b, c] (by simp), e, root2]

set_option maxHeartbeats 4000000 in
set_option maxRecDepth 100000 in
theorem bhead_any (w : World) (ht : TabAt w) :
    Calls Tryd.prog 5 #[] w fun e w' => e = .returned (.bool true) ∧ Below w.heap.size w w' := by
  have HT := Lib.hid ht
  clear ht
  have HA := Lib.hid (hd_is 1 (by omega))
  have HB := Lib.hid (hd_is 2 (by omega))
  have HC := Lib.hid (hd_is 3 (by omega))
  have HSA := Lib.hid (sizeH (hd 1) HA.out)
  have HSB := Lib.hid (sizeH (hd 2) HB.out)
  have HSC := Lib.hid (sizeH (hd 3) HC.out)
  have sz : ∀ x, IsH x → (bys x).length = ZH.size := fun x hx => by rw [bys_len, hx.1, ZH_size]
  have sz' : ∀ x, IsH x → ZH.size = (bys x).toArray.size := fun x hx => by rw [← sz x hx]; simp
  have HTA := Lib.hid (there_new w ZH 23 (bys (hd 1)).toArray.size (sz' (hd 1) HA.out))
  have bka : Blk ((w.alloc (.cells ZH 23)).setCells w.heap.size 0 (bys (hd 1))) w.heap.size 23 (bys (hd 1)).toArray := (Blk.new w 23 ZH).stored (bys (hd 1)) (sz (hd 1) HA.out)
  have hB1 : Below w.heap.size w ((w.alloc (.cells ZH 23)).setCells w.heap.size 0 (bys (hd 1))) := Below.setCells' ((Below.refl _ _).alloc (Nat.le_refl _) _) _ _ (Nat.le_refl _) _
  have SZ := Lib.hid sz
  have SZ' := Lib.hid sz'
  clear sz sz'
  go_enter Tryd.func5, Tryd.ntmps5
  go_upto_region 2 with (first
    | (refine wpList_of_wp rfl fun K hK => wp_build_arr 23 _ rfl 32 5 ZH (bys (hd 1)).toArray Tryd.underlying23 Tryd.zero23 Tryd.size5 (by kernel_rfl) (hK _ _ ?_))
    | (refine wpList_of_wp rfl fun K hK => wp_alloc_arr 23 rfl ZH Tryd.zero23 (hK _ _ ?_))
    | (refine wpList_store_mid rfl 23 (.tmp 1) (.tmp 4) rfl w.heap.size 0 (bys (hd 1)).toArray rfl rfl HTA.out (by simpa using HSA.out) (all_oneCell_toArray (bys_one _)) ?_))
  change Code.wp _ _ _ _ ((w.alloc (.cells ZH 23)).setCells w.heap.size 0 (bys (hd 1)))
  generalize (w.alloc (.cells ZH 23)).setCells w.heap.size 0 (bys (hd 1)) = w1 at *
  have s1 := hB1.size
  have HTB := Lib.hid (there_new w1 ZH 23 (bys (hd 2)).toArray.size (SZ'.out (hd 2) HB.out))
  have bkb : Blk ((w1.alloc (.cells ZH 23)).setCells w1.heap.size 0 (bys (hd 2))) w1.heap.size 23 (bys (hd 2)).toArray := (Blk.new w1 23 ZH).stored (bys (hd 2)) (SZ.out (hd 2) HB.out)
  have hb2 : Below w1.heap.size w1 ((w1.alloc (.cells ZH 23)).setCells w1.heap.size 0 (bys (hd 2))) := Below.setCells' ((Below.refl _ _).alloc (Nat.le_refl _) _) _ _ (Nat.le_refl _) _
  have bka2 := bka.below hb2 bka.lt
  have hB2 := hB1.trans (hb2.mono s1)
  clear HTA bka hB1 hb2
  go_upto_region 3 with (first
    | (refine wpList_of_wp rfl fun K hK => wp_build_arr 23 _ rfl 32 5 ZH (bys (hd 2)).toArray Tryd.underlying23 Tryd.zero23 Tryd.size5 (by kernel_rfl) (hK _ _ ?_))
    | (refine wpList_of_wp rfl fun K hK => wp_alloc_arr 23 rfl ZH Tryd.zero23 (hK _ _ ?_))
    | (refine wpList_store_mid rfl 23 (.tmp 2) (.tmp 5) rfl w1.heap.size 0 (bys (hd 2)).toArray rfl rfl HTB.out (by simpa using HSB.out) (all_oneCell_toArray (bys_one _)) ?_))
  change Code.wp _ _ _ _ ((w1.alloc (.cells ZH 23)).setCells w1.heap.size 0 (bys (hd 2)))
  generalize (w1.alloc (.cells ZH 23)).setCells w1.heap.size 0 (bys (hd 2)) = w2 at *
  generalize w1.heap.size = gb at *
  have s2 := hB2.size
  have HTC := Lib.hid (there_new w2 ZH 23 (bys (hd 3)).toArray.size (SZ'.out (hd 3) HC.out))
  have bkc : Blk ((w2.alloc (.cells ZH 23)).setCells w2.heap.size 0 (bys (hd 3))) w2.heap.size 23 (bys (hd 3)).toArray := (Blk.new w2 23 ZH).stored (bys (hd 3)) (SZ.out (hd 3) HC.out)
  have hb3 : Below w2.heap.size w2 ((w2.alloc (.cells ZH 23)).setCells w2.heap.size 0 (bys (hd 3))) := Below.setCells' ((Below.refl _ _).alloc (Nat.le_refl _) _) _ _ (Nat.le_refl _) _
  have bka3 := bka2.below hb3 bka2.lt
  have bkb3 := bkb.below hb3 bkb.lt
  have hB3 := hB2.trans (hb3.mono s2)
  clear HTB bka2 bkb hB2 hb3 s1
  go_upto_region 4 with (first
    | (refine wpList_of_wp rfl fun K hK => wp_build_arr 23 _ rfl 32 5 ZH (bys (hd 3)).toArray Tryd.underlying23 Tryd.zero23 Tryd.size5 (by kernel_rfl) (hK _ _ ?_))
    | (refine wpList_of_wp rfl fun K hK => wp_alloc_arr 23 rfl ZH Tryd.zero23 (hK _ _ ?_))
    | (refine wpList_store_mid rfl 23 (.tmp 3) (.tmp 6) rfl w2.heap.size 0 (bys (hd 3)).toArray rfl rfl HTC.out (by simpa using HSC.out) (all_oneCell_toArray (bys_one _)) ?_))
  change Code.wp _ _ _ _ ((w2.alloc (.cells ZH 23)).setCells w2.heap.size 0 (bys (hd 3)))
  generalize (w2.alloc (.cells ZH 23)).setCells w2.heap.size 0 (bys (hd 3)) = W at *
  generalize w2.heap.size = gc at *
  have s3 := hB3.size
  have HXA : Hid (∀ wx, Below W.heap.size W wx → wx.rangeAt w.heap.size 0 (bys (hd 1))) := Lib.hid fun wx hx => (bka3.below hx bka3.lt).range
  have HXB : Hid (∀ wx, Below W.heap.size W wx → wx.rangeAt gb 0 (bys (hd 2))) := Lib.hid fun wx hx => (bkb3.below hx bkb3.lt).range
  have HXC : Hid (∀ wx, Below W.heap.size W wx → wx.rangeAt gc 0 (bys (hd 3))) := Lib.hid fun wx hx => (bkc.below hx bkc.lt).range
  have HTW : Hid (∀ wx, Below W.heap.size W wx → TabAt wx) := Lib.hid fun wx hx => (HT.out.below hB3 HT.out.1).below hx (Nat.lt_of_lt_of_le HT.out.1 s3)
  have HBW := Lib.hid hB3
  clear bka3 bkb3 bkc hB3 HTC SZ SZ'
  generalize hd 1 = a at *
  generalize hd 2 = b at *
  generalize hd 3 = c at *
  refine wp_region_noPanic ?_
  refine wp_region_held_drew (S := (fun wx => Below W.heap.size W wx)) (by kernel_rfl) (Below.drew' (Below.refl _ _)) (fun hHeld => ?_)
  refine wpAnyH_take (i := 0) (v := .agg (bys a).toArray) (by simp only [List.getElem?_toArray, List.getElem?_cons_succ, List.getElem?_cons_zero]; rfl) (by kernel_rfl) (by kernel_rfl) (by kernel_rfl) (fun _ _ _ h => h) (yieldsIf_load_mid (by rfl) 23 (.tmp 1) rfl w.heap.size (0) rfl (bys a) _ (fun wx hx => HXA.out wx hx) Tryd.underlying23 rfl (HSA.out)) (by assumption) ?_
  (try simp only [Act.put, List.setIfInBounds_toArray, List.set_cons_zero, List.set_cons_succ])
  refine wpAnyH_take (i := 3) (v := .agg (bys a).toArray) (by simp only [List.getElem?_toArray, List.getElem?_cons_succ, List.getElem?_cons_zero]; rfl) (by kernel_rfl) (by kernel_rfl) (by kernel_rfl) (fun _ _ _ h => h) (yieldsIf_load_mid (by rfl) 23 (.tmp 1) rfl w.heap.size (0) rfl (bys a) _ (fun wx hx => HXA.out wx hx) Tryd.underlying23 rfl (HSA.out)) (by assumption) ?_
  (try simp only [Act.put, List.setIfInBounds_toArray, List.set_cons_zero, List.set_cons_succ])
  have hx1 : ∀ x ∈ [a], IsH x := by simp only [List.mem_cons, List.not_mem_nil, or_false]; intro x hx; rcases hx with rfl <;> first | exact HA.out | exact HB.out | exact HC.out
  have rh1 := RH.new W.drew 1 [a] rfl hx1
  have hBb1 : Below W.heap.size W (W.drew.alloc (.cells (flatH [a]).toArray 23)) := hHeld.alloc hHeld.size _
  refine wpAnyH_ready (rs := [1]) (by kernel_rfl) (by simp) ?_
  refine AllReadyH.cons (by simp only [List.getElem?_toArray, List.getElem?_cons_succ, List.getElem?_cons_zero]; rfl) (fun K hK => ?_) AllReadyH.nil
  refine (if_pos rfl).mpr (wp_buildSlice_run 39 1 _ rfl (lit_hashes _ 1 [a] rfl (by omega) (by omega) hx1 _ (by first | rfl | (simp; done) | (simp; exact ⟨rfl, rfl⟩) | (simp; exact ⟨rfl, rfl, rfl⟩) | (simp; rfl))) ?_)
  refine hK.out _ _ ?_ (fun hHeld => ?_)
  · exact hBb1
  clear hK K
  (try simp only [Act.put, List.setIfInBounds_toArray, List.set_cons_zero, List.set_cons_succ])
  refine wpAnyH_ready (rs := [2]) (by kernel_rfl) (by simp) ?_
  refine AllReadyH.cons (by simp only [List.getElem?_toArray, List.getElem?_cons_succ, List.getElem?_cons_zero]; rfl) (fun K hK => ?_) AllReadyH.nil
  go_simp
  refine (root_any _ 1 1 [a] _ (by exact rh1) (by omega) (HTW.out _ hHeld)).mono ?_
  rintro ee v1 ⟨rfl, hb_v1⟩
  have hc_v1 := hHeld.trans (hb_v1.mono hHeld.size)
  refine hK.out _ _ ?_ (fun hHeld => ?_)
  · exact hc_v1
  clear hK K
  (try simp only [Act.put, List.setIfInBounds_toArray, List.set_cons_zero, List.set_cons_succ])
  rw [root_one [a] rfl, show [a].getD 0 [] = a from rfl]
  have heq4 := fun wx => h_eql1 a HA.out wx
  have hgd4 := fun wx => run_eqGuard_agg (P := Tryd.prog) wx .eql 23 (.tmp 9) (.tmp 10) (bys a).toArray (bys a).toArray Tryd.eqg23
  refine wpAnyH_take (i := 4) (v := .bool true) (by simp only [List.getElem?_toArray, List.getElem?_cons_succ, List.getElem?_cons_zero]; rfl) (by kernel_rfl) (by kernel_rfl) (by kernel_rfl) (fun _ _ _ h => h) (Or.inl ⟨by rfl, ?_⟩) (by assumption) ?_
  · (intro w hSw; (try dsimp only at hSw); go_simp; skip)
  (try simp only [Act.put, List.setIfInBounds_toArray, List.set_cons_zero, List.set_cons_succ])
  clear heq4 hgd4
  refine wpAnyH_take (i := 5) (v := ?_) (by simp only [List.getElem?_toArray, List.getElem?_cons_succ, List.getElem?_cons_zero]; rfl) (by kernel_rfl) (by kernel_rfl) (by kernel_rfl) (fun _ _ _ h => h) (Or.inl ⟨by rfl, ?_⟩) (by assumption) ?_
  rotate_left
  · (intro w hSw; (try dsimp only at hSw); go_simp; (try with_reducible rfl))
  (try simp only [Act.put, List.setIfInBounds_toArray, List.set_cons_zero, List.set_cons_succ])
  refine wpAnyH_take (i := 6) (v := .agg (bys a).toArray) (by simp only [List.getElem?_toArray, List.getElem?_cons_succ, List.getElem?_cons_zero]; rfl) (by kernel_rfl) (by kernel_rfl) (by kernel_rfl) (fun _ _ _ h => h) (yieldsIf_load_mid (by rfl) 23 (.tmp 1) rfl w.heap.size (0) rfl (bys a) _ (fun wx hx => HXA.out wx hx) Tryd.underlying23 rfl (HSA.out)) (by assumption) ?_
  (try simp only [Act.put, List.setIfInBounds_toArray, List.set_cons_zero, List.set_cons_succ])
  refine wpAnyH_take (i := 7) (v := .agg (bys b).toArray) (by simp only [List.getElem?_toArray, List.getElem?_cons_succ, List.getElem?_cons_zero]; rfl) (by kernel_rfl) (by kernel_rfl) (by kernel_rfl) (fun _ _ _ h => h) (yieldsIf_load_mid (by rfl) 23 (.tmp 2) rfl gb (0) rfl (bys b) _ (fun wx hx => HXB.out wx hx) Tryd.underlying23 rfl (HSB.out)) (by assumption) ?_
  (try simp only [Act.put, List.setIfInBounds_toArray, List.set_cons_zero, List.set_cons_succ])
  refine wpAnyH_take (i := 10) (v := .agg (bys a).toArray) (by simp only [List.getElem?_toArray, List.getElem?_cons_succ, List.getElem?_cons_zero]; rfl) (by kernel_rfl) (by kernel_rfl) (by kernel_rfl) (fun _ _ _ h => h) (yieldsIf_load_mid (by rfl) 23 (.tmp 1) rfl w.heap.size (0) rfl (bys a) _ (fun wx hx => HXA.out wx hx) Tryd.underlying23 rfl (HSA.out)) (by assumption) ?_
  (try simp only [Act.put, List.setIfInBounds_toArray, List.set_cons_zero, List.set_cons_succ])
  refine wpAnyH_take (i := 11) (v := .agg (bys b).toArray) (by simp only [List.getElem?_toArray, List.getElem?_cons_succ, List.getElem?_cons_zero]; rfl) (by kernel_rfl) (by kernel_rfl) (by kernel_rfl) (fun _ _ _ h => h) (yieldsIf_load_mid (by rfl) 23 (.tmp 2) rfl gb (0) rfl (bys b) _ (fun wx hx => HXB.out wx hx) Tryd.underlying23 rfl (HSB.out)) (by assumption) ?_
  (try simp only [Act.put, List.setIfInBounds_toArray, List.set_cons_zero, List.set_cons_succ])
  have hx2 : ∀ x ∈ [a, b], IsH x := by simp only [List.mem_cons, List.not_mem_nil, or_false]; intro x hx; rcases hx with rfl | rfl <;> first | exact HA.out | exact HB.out | exact HC.out
  have rh2 := RH.new v1 2 [a, b] rfl hx2
  have hBb2 : Below W.heap.size W (v1.alloc (.cells (flatH [a, b]).toArray 23)) := hHeld.alloc hHeld.size _
  refine wpAnyH_ready (rs := [8]) (by kernel_rfl) (by simp) ?_
  refine AllReadyH.cons (by simp only [List.getElem?_toArray, List.getElem?_cons_succ, List.getElem?_cons_zero]; rfl) (fun K hK => ?_) AllReadyH.nil
  refine (if_pos rfl).mpr (wp_buildSlice_run 39 2 _ rfl (lit_hashes _ 2 [a, b] rfl (by omega) (by omega) hx2 _ (by first | rfl | (simp; done) | (simp; exact ⟨rfl, rfl⟩) | (simp; exact ⟨rfl, rfl, rfl⟩) | (simp; rfl))) ?_)
  refine hK.out _ _ ?_ (fun hHeld => ?_)
  · exact hBb2
  clear hK K
  (try simp only [Act.put, List.setIfInBounds_toArray, List.set_cons_zero, List.set_cons_succ])
  refine wpAnyH_ready (rs := [9]) (by kernel_rfl) (by simp) ?_
  refine AllReadyH.cons (by simp only [List.getElem?_toArray, List.getElem?_cons_succ, List.getElem?_cons_zero]; rfl) (fun K hK => ?_) AllReadyH.nil
  go_simp
  refine (root_any _ 2 2 [a, b] _ (by exact rh2) (by omega) (HTW.out _ hHeld)).mono ?_
  rintro ee v2 ⟨rfl, hb_v2⟩
  have hc_v2 := hHeld.trans (hb_v2.mono hHeld.size)
  refine hK.out _ _ ?_ (fun hHeld => ?_)
  · exact hc_v2
  clear hK K
  (try simp only [Act.put, List.setIfInBounds_toArray, List.set_cons_zero, List.set_cons_succ])
  rw [root2]
  refine wpAnyH_ready (rs := [12]) (by kernel_rfl) (by simp) ?_
  refine AllReadyH.cons (by simp only [List.getElem?_toArray, List.getElem?_cons_succ, List.getElem?_cons_zero]; rfl) (fun K hK => ?_) AllReadyH.nil
  go_simp
  refine (pairs_any a b HA.out HB.out _ (HTW.out _ hHeld)).mono ?_
  rintro ee v3 ⟨rfl, hb_v3⟩
  have hc_v3 := hHeld.trans (hb_v3.mono hHeld.size)
  refine hK.out _ _ ?_ (fun hHeld => ?_)
  · exact hc_v3
  clear hK K
  (try simp only [Act.put, List.setIfInBounds_toArray, List.set_cons_zero, List.set_cons_succ])
  have heq13 := fun wx => h_eql1 (pr a b) (pr_is a b) wx
  have hgd13 := fun wx => run_eqGuard_agg (P := Tryd.prog) wx .eql 23 (.tmp 16) (.tmp 19) (bys (pr a b)).toArray (bys (pr a b)).toArray Tryd.eqg23
  refine wpAnyH_take (i := 13) (v := .bool true) (by simp only [List.getElem?_toArray, List.getElem?_cons_succ, List.getElem?_cons_zero]; rfl) (by kernel_rfl) (by kernel_rfl) (by kernel_rfl) (fun _ _ _ h => h) (Or.inl ⟨by rfl, ?_⟩) (by assumption) ?_
  · (intro w hSw; (try dsimp only at hSw); go_simp; skip)
  (try simp only [Act.put, List.setIfInBounds_toArray, List.set_cons_zero, List.set_cons_succ])
  clear heq13 hgd13
  refine wpAnyH_take (i := 14) (v := ?_) (by simp only [List.getElem?_toArray, List.getElem?_cons_succ, List.getElem?_cons_zero]; rfl) (by kernel_rfl) (by kernel_rfl) (by kernel_rfl) (fun _ _ _ h => h) (Or.inl ⟨by rfl, ?_⟩) (by assumption) ?_
  rotate_left
  · (intro w hSw; (try dsimp only at hSw); go_simp; (try with_reducible rfl))
  (try simp only [Act.put, List.setIfInBounds_toArray, List.set_cons_zero, List.set_cons_succ])
  refine wpAnyH_take (i := 15) (v := ?_) (by simp only [List.getElem?_toArray, List.getElem?_cons_succ, List.getElem?_cons_zero]; rfl) (by kernel_rfl) (by kernel_rfl) (by kernel_rfl) (fun _ _ _ h => h) (Or.inl ⟨by rfl, ?_⟩) (by assumption) ?_
  rotate_left
  · (intro w hSw; (try dsimp only at hSw); go_simp; (try with_reducible rfl))
  (try simp only [Act.put, List.setIfInBounds_toArray, List.set_cons_zero, List.set_cons_succ])
  refine wpAnyH_take (i := 16) (v := .agg (bys a).toArray) (by simp only [List.getElem?_toArray, List.getElem?_cons_succ, List.getElem?_cons_zero]; rfl) (by kernel_rfl) (by kernel_rfl) (by kernel_rfl) (fun _ _ _ h => h) (yieldsIf_load_mid (by rfl) 23 (.tmp 1) rfl w.heap.size (0) rfl (bys a) _ (fun wx hx => HXA.out wx hx) Tryd.underlying23 rfl (HSA.out)) (by assumption) ?_
  (try simp only [Act.put, List.setIfInBounds_toArray, List.set_cons_zero, List.set_cons_succ])
  refine wpAnyH_take (i := 17) (v := .agg (bys b).toArray) (by simp only [List.getElem?_toArray, List.getElem?_cons_succ, List.getElem?_cons_zero]; rfl) (by kernel_rfl) (by kernel_rfl) (by kernel_rfl) (fun _ _ _ h => h) (yieldsIf_load_mid (by rfl) 23 (.tmp 2) rfl gb (0) rfl (bys b) _ (fun wx hx => HXB.out wx hx) Tryd.underlying23 rfl (HSB.out)) (by assumption) ?_
  (try simp only [Act.put, List.setIfInBounds_toArray, List.set_cons_zero, List.set_cons_succ])
  refine wpAnyH_take (i := 18) (v := .agg (bys c).toArray) (by simp only [List.getElem?_toArray, List.getElem?_cons_succ, List.getElem?_cons_zero]; rfl) (by kernel_rfl) (by kernel_rfl) (by kernel_rfl) (fun _ _ _ h => h) (yieldsIf_load_mid (by rfl) 23 (.tmp 3) rfl gc (0) rfl (bys c) _ (fun wx hx => HXC.out wx hx) Tryd.underlying23 rfl (HSC.out)) (by assumption) ?_
  (try simp only [Act.put, List.setIfInBounds_toArray, List.set_cons_zero, List.set_cons_succ])
  refine wpAnyH_take (i := 21) (v := .agg (bys a).toArray) (by simp only [List.getElem?_toArray, List.getElem?_cons_succ, List.getElem?_cons_zero]; rfl) (by kernel_rfl) (by kernel_rfl) (by kernel_rfl) (fun _ _ _ h => h) (yieldsIf_load_mid (by rfl) 23 (.tmp 1) rfl w.heap.size (0) rfl (bys a) _ (fun wx hx => HXA.out wx hx) Tryd.underlying23 rfl (HSA.out)) (by assumption) ?_
  (try simp only [Act.put, List.setIfInBounds_toArray, List.set_cons_zero, List.set_cons_succ])
  refine wpAnyH_take (i := 22) (v := .agg (bys b).toArray) (by simp only [List.getElem?_toArray, List.getElem?_cons_succ, List.getElem?_cons_zero]; rfl) (by kernel_rfl) (by kernel_rfl) (by kernel_rfl) (fun _ _ _ h => h) (yieldsIf_load_mid (by rfl) 23 (.tmp 2) rfl gb (0) rfl (bys b) _ (fun wx hx => HXB.out wx hx) Tryd.underlying23 rfl (HSB.out)) (by assumption) ?_
  (try simp only [Act.put, List.setIfInBounds_toArray, List.set_cons_zero, List.set_cons_succ])
  refine wpAnyH_take (i := 24) (v := .agg (bys c).toArray) (by simp only [List.getElem?_toArray, List.getElem?_cons_succ, List.getElem?_cons_zero]; rfl) (by kernel_rfl) (by kernel_rfl) (by kernel_rfl) (fun _ _ _ h => h) (yieldsIf_load_mid (by rfl) 23 (.tmp 3) rfl gc (0) rfl (bys c) _ (fun wx hx => HXC.out wx hx) Tryd.underlying23 rfl (HSC.out)) (by assumption) ?_
  (try simp only [Act.put, List.setIfInBounds_toArray, List.set_cons_zero, List.set_cons_succ])
  refine wpAnyH_take (i := 25) (v := .agg (bys c).toArray) (by simp only [List.getElem?_toArray, List.getElem?_cons_succ, List.getElem?_cons_zero]; rfl) (by kernel_rfl) (by kernel_rfl) (by kernel_rfl) (fun _ _ _ h => h) (yieldsIf_load_mid (by rfl) 23 (.tmp 3) rfl gc (0) rfl (bys c) _ (fun wx hx => HXC.out wx hx) Tryd.underlying23 rfl (HSC.out)) (by assumption) ?_
  (try simp only [Act.put, List.setIfInBounds_toArray, List.set_cons_zero, List.set_cons_succ])
  have hx3 : ∀ x ∈ [a, b, c], IsH x := by simp only [List.mem_cons, List.not_mem_nil, or_false]; intro x hx; rcases hx with rfl | rfl | rfl <;> first | exact HA.out | exact HB.out | exact HC.out
  have rh3 := RH.new v3 3 [a, b, c] rfl hx3
  have hBb3 : Below W.heap.size W (v3.alloc (.cells (flatH [a, b, c]).toArray 23)) := hHeld.alloc hHeld.size _
  refine wpAnyH_ready (rs := [19]) (by kernel_rfl) (by simp) ?_
  refine AllReadyH.cons (by simp only [List.getElem?_toArray, List.getElem?_cons_succ, List.getElem?_cons_zero]; rfl) (fun K hK => ?_) AllReadyH.nil
  refine (if_pos rfl).mpr (wp_buildSlice_run 39 3 _ rfl (lit_hashes _ 3 [a, b, c] rfl (by omega) (by omega) hx3 _ (by first | rfl | (simp; done) | (simp; exact ⟨rfl, rfl⟩) | (simp; exact ⟨rfl, rfl, rfl⟩) | (simp; rfl))) ?_)
  refine hK.out _ _ ?_ (fun hHeld => ?_)
  · exact hBb3
  clear hK K
  (try simp only [Act.put, List.setIfInBounds_toArray, List.set_cons_zero, List.set_cons_succ])
  refine wpAnyH_ready (rs := [20]) (by kernel_rfl) (by simp) ?_
  refine AllReadyH.cons (by simp only [List.getElem?_toArray, List.getElem?_cons_succ, List.getElem?_cons_zero]; rfl) (fun K hK => ?_) AllReadyH.nil
  go_simp
  refine (root_any _ 3 3 [a, b, c] _ (by exact rh3) (by omega) (HTW.out _ hHeld)).mono ?_
  rintro ee v4 ⟨rfl, hb_v4⟩
  have hc_v4 := hHeld.trans (hb_v4.mono hHeld.size)
  refine hK.out _ _ ?_ (fun hHeld => ?_)
  · exact hc_v4
  clear hK K
  (try simp only [Act.put, List.setIfInBounds_toArray, List.set_cons_zero, List.set_cons_succ])
  rw [root3]
  refine wpAnyH_ready (rs := [23]) (by kernel_rfl) (by simp) ?_
  refine AllReadyH.cons (by simp only [List.getElem?_toArray, List.getElem?_cons_succ, List.getElem?_cons_zero]; rfl) (fun K hK => ?_) AllReadyH.nil
  go_simp
  refine (pairs_any a b HA.out HB.out _ (HTW.out _ hHeld)).mono ?_
  rintro ee v5 ⟨rfl, hb_v5⟩
  have hc_v5 := hHeld.trans (hb_v5.mono hHeld.size)
  refine hK.out _ _ ?_ (fun hHeld => ?_)
  · exact hc_v5
  clear hK K
  (try simp only [Act.put, List.setIfInBounds_toArray, List.set_cons_zero, List.set_cons_succ])
  refine wpAnyH_ready (rs := [26]) (by kernel_rfl) (by simp) ?_
  refine AllReadyH.cons (by simp only [List.getElem?_toArray, List.getElem?_cons_succ, List.getElem?_cons_zero]; rfl) (fun K hK => ?_) AllReadyH.nil
  go_simp
  refine (pairs_any c c HC.out HC.out _ (HTW.out _ hHeld)).mono ?_
  rintro ee v6 ⟨rfl, hb_v6⟩
  have hc_v6 := hHeld.trans (hb_v6.mono hHeld.size)
  refine hK.out _ _ ?_ (fun hHeld => ?_)
  · exact hc_v6
  clear hK K
  (try simp only [Act.put, List.setIfInBounds_toArray, List.set_cons_zero, List.set_cons_succ])
  refine wpAnyH_ready (rs := [27]) (by kernel_rfl) (by simp) ?_
  refine AllReadyH.cons (by simp only [List.getElem?_toArray, List.getElem?_cons_succ, List.getElem?_cons_zero]; rfl) (fun K hK => ?_) AllReadyH.nil
  go_simp
  refine (pairs_any (pr a b) (pr c c) (pr_is _ _) (pr_is _ _) _ (HTW.out _ hHeld)).mono ?_
  rintro ee v7 ⟨rfl, hb_v7⟩
  have hc_v7 := hHeld.trans (hb_v7.mono hHeld.size)
  refine hK.out _ _ ?_ (fun hHeld => ?_)
  · exact hc_v7
  clear hK K
  (try simp only [Act.put, List.setIfInBounds_toArray, List.set_cons_zero, List.set_cons_succ])
  have heq28 := fun wx => h_eql1 (pr (pr a b) (pr c c)) (pr_is _ _) wx
  have hgd28 := fun wx => run_eqGuard_agg (P := Tryd.prog) wx .eql 23 (.tmp 27) (.tmp 34) (bys (pr (pr a b) (pr c c))).toArray (bys (pr (pr a b) (pr c c))).toArray Tryd.eqg23
  refine wpAnyH_take (i := 28) (v := .bool true) (by simp only [List.getElem?_toArray, List.getElem?_cons_succ, List.getElem?_cons_zero]; rfl) (by kernel_rfl) (by kernel_rfl) (by kernel_rfl) (fun _ _ _ h => h) (Or.inl ⟨by rfl, ?_⟩) (by assumption) ?_
  · (intro w hSw; (try dsimp only at hSw); go_simp; skip)
  (try simp only [Act.put, List.setIfInBounds_toArray, List.set_cons_zero, List.set_cons_succ])
  clear heq28 hgd28
  refine wpAnyH_take (i := 29) (v := ?_) (by simp only [List.getElem?_toArray, List.getElem?_cons_succ, List.getElem?_cons_zero]; rfl) (by kernel_rfl) (by kernel_rfl) (by kernel_rfl) (fun _ _ _ h => h) (Or.inl ⟨by rfl, ?_⟩) (by assumption) ?_
  rotate_left
  · (intro w hSw; (try dsimp only at hSw); go_simp; (try with_reducible rfl))
  (try simp only [Act.put, List.setIfInBounds_toArray, List.set_cons_zero, List.set_cons_succ])
  refine wpAnyH_take (i := 30) (v := ?_) (by simp only [List.getElem?_toArray, List.getElem?_cons_succ, List.getElem?_cons_zero]; rfl) (by kernel_rfl) (by kernel_rfl) (by kernel_rfl) (fun _ _ _ h => h) (Or.inl ⟨by rfl, ?_⟩) (by assumption) ?_
  rotate_left
  · (intro w hSw; (try dsimp only at hSw); go_simp; (try with_reducible rfl))
  (try simp only [Act.put, List.setIfInBounds_toArray, List.set_cons_zero, List.set_cons_succ])
  refine wpAnyH_done (by kernel_rfl) ?_ _
  refine NoPanic.normal ?_
  have hfin := HBW.out.trans (hHeld.mono s3)
  go_wp2_with fail
  go_ret
  exact ⟨rfl, hfin⟩
end Go.Proofs.YtkokbpifjpmhlaaDoor
