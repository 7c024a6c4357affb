/- The walk of ShaDoubles. -/
import Derived.Test.YtibgbbplbefdpabDoorSumsW
namespace Go.Proofs.YtibgbbplbefdpabDoor
set_option linter.unusedSimpArgs false
set_option linter.unusedVariables false
open Go.RowKit

set_option maxHeartbeats 1000000 in
set_option maxRecDepth 100000 in
theorem doubles_long (A : Option Addr) (n c : Nat) (xs ys : List Nat) (w : World) (ht : TabAt w) (h : (500 : Int) < n) :
    Calls Tryd.prog 4 #[.slice A n c, .agg (bys xs).toArray, .agg (bys ys).toArray] w fun e w' => e = .returned (.bool true) ∧ Below w.heap.size w w' := by
  have HT := Lib.hid ht
  clear ht
  have hb0 : Below w.heap.size w ((w.alloc (.cells (bys xs).toArray 25)).alloc (.cells (bys ys).toArray 25)) := ((Below.refl _ _).alloc (Nat.le_refl _) _).alloc (by simp) _
  go_enter Tryd.func4, Tryd.ntmps4
  go_wp2_with fail
  refine (head_any _ (HT.out.below hb0 HT.out.1)).mono ?_
  rintro e w1 ⟨rfl, hb1⟩
  go_wp2_with fail
  go_ret
  exact ⟨rfl, hb0.trans (hb1.mono (by simp; omega))⟩

set_option maxHeartbeats 4000000 in
set_option maxRecDepth 100000 in
theorem doubles_walk (A : Option Addr) (n c : Nat) (bs xs ys : List Nat) (w : World) (hr : Rd w w.heap.size A n (bys bs)) (hb : ∀ c ∈ bs, c < 256) (hc : n ≤ c) (hcm : c ≤ maxLen)
    (hx : xs.length = 32) (hy : ys.length = 32) (hbx : ∀ c ∈ xs, c < 256) (hby : ∀ c ∈ ys, c < 256) (ht : TabAt w) (h : (n : Int) ≤ 500) :
    Calls Tryd.prog 4 #[.slice A n c, .agg (bys xs).toArray, .agg (bys ys).toArray] w fun e w' => e = .returned (.bool true) ∧ Below w.heap.size w w' := by
  obtain ⟨i5, hi5, hz0, hz1, hz2⟩ := info_parts Tryd.info5
  have HT := Lib.hid ht
  have HB := Lib.hid hb
  have HBX := Lib.hid hbx
  have HBY := Lib.hid hby
  have lx : (bys xs).length = 32 := by rw [bys_len, hx]
  have ly : (bys ys).length = 32 := by rw [bys_len, hy]
  have HLX := Lib.hid hx
  have HLY := Lib.hid hy
  have HZX := Lib.hid (show (Tryd.prog.info? 25).map (·.size) = some (bys xs).length by rw [lx]; exact Tryd.size25)
  have HZY := Lib.hid (show (Tryd.prog.info? 25).map (·.size) = some (bys ys).length by rw [ly]; exact Tryd.size25)
  obtain ⟨TB, eTB⟩ : ∃ TB, TAB = TB := ⟨_, rfl⟩
  have tbl : (us TB).length = 72 := by rw [us_len, ← eTB]; decide
  have HREF := Lib.hid (fun (A : Option Addr) (n c : Nat) (bs : List Nat) (w : World) (hr : Rd w w.heap.size A n (bys bs)) (hb : ∀ c ∈ bs, c < 256) (hn : (n : Int) ≤ 100000000) =>
    show Calls Tryd.prog 9 #[.agg (us TB).toArray, .slice A n c] w fun e w' => e = .returned (.agg (bys (dg bs)).toArray) ∧ Below w.heap.size w w' by rw [← eTB]; exact ref_any A n c bs w hr hb hn)
  have HMK := Lib.hid (fun w => show Calls Tryd.prog 8 #[] w fun e w' => e = .returned (.agg (us TB).toArray) ∧ Below w.heap.size w w' by rw [← eTB]; exact make_any w)
  have HZT := Lib.hid (show (Tryd.prog.info? 31).map (·.size) = some (us TB).length by rw [tbl]; exact Tryd.size31)
  have HTL := Lib.hid tbl
  clear ht hb hbx hby hx hy eTB tbl
  have hd : decide ((500 : Int) < (n : Int)) = false := by simp; omega
  obtain ⟨W0, e0⟩ : ∃ W0, W0 = (w.alloc (.cells (bys xs).toArray 25)).alloc (.cells (bys ys).toArray 25) := ⟨_, rfl⟩
  have hb0 : Below w.heap.size w W0 := by rw [e0]; exact ((Below.refl _ _).alloc (Nat.le_refl _) _).alloc (by simp) _
  have s0 : W0.heap.size = w.heap.size + 1 + 1 := by rw [e0]; simp
  have kx : Blk W0 w.heap.size 25 (bys xs).toArray := by rw [e0]; exact heap_alloc2_old w _ _
  have ky : Blk W0 (w.heap.size + 1) 25 (bys ys).toArray := by rw [e0]; exact heap_alloc2_new w _ _
  have HE0 := Lib.hid e0
  have HS0 := Lib.hid s0
  clear e0 s0
  go_enter Tryd.func4, Tryd.ntmps4
  go_wp2_with fail
  rw [← HE0.out]
  refine (head_any _ (HT.out.below hb0 HT.out.1)).mono ?_
  rintro e w1 ⟨rfl, hb1⟩
  have hB1 := hb0.trans (hb1.mono hb0.size)
  have kx1 := kx.below hb1 kx.lt
  have ky1 := ky.below hb1 ky.lt
  have s1 := hB1.size
  clear hb0 kx ky hb1
  go_wp2_with fail
  refine (HMK.out _).mono ?_
  rintro e w2 ⟨rfl, hb2⟩
  have hB2 := hB1.trans (hb2.mono s1)
  have kx2 := kx1.below hb2 kx1.lt
  have ky2 := ky1.below hb2 ky1.lt
  have s2 := hB2.size
  clear hB1 kx1 ky1 hb2 s1
  have HT3 := Lib.hid (show (w2.alloc (.cells Z72 31)).there w2.heap.size 0 (us TB).toArray.size by
    have := there_new w2 Z72 31 72 rfl
    rw [show (us TB).toArray.size = 72 from HTL.out]; exact this)
  have hB3 : Below w.heap.size w ((w2.alloc (.cells Z72 31)).setCells w2.heap.size 0 (us TB)) := Below.setCells' (hB2.alloc s2 _) _ _ s2 _
  have kx3 := (kx2.alloc (.cells Z72 31)).setCells w2.heap.size 0 (us TB) (by have := kx2.lt; omega)
  have ky3 := (ky2.alloc (.cells Z72 31)).setCells w2.heap.size 0 (us TB) (by have := ky2.lt; omega)
  have kt3 : Blk ((w2.alloc (.cells Z72 31)).setCells w2.heap.size 0 (us TB)) w2.heap.size 31 (us TB).toArray := (Blk.new w2 31 Z72).stored (us TB) HTL.out
  have HRT := Lib.hid kt3.range
  go_upto_region 6 with (first
    | (refine wpList_of_wp rfl fun K hK => wp_alloc_arr 31 rfl Z72 Tryd.zero31 (hK _ _ ?_))
    | (refine wpList_store_mid rfl 31 (.tmp 7) (.tmp 16) rfl w2.heap.size 0 (us TB).toArray rfl rfl HT3.out (by rw [show (us TB).toArray.size = 72 from HTL.out]; exact Tryd.size31) (all_oneCell_toArray (us_one _)) ?_))
  change Code.wp _ _ _ _ ((w2.alloc (.cells Z72 31)).setCells w2.heap.size 0 (us TB))
  generalize (w2.alloc (.cells Z72 31)).setCells w2.heap.size 0 (us TB) = w3 at *
  clear hB2 kx2 ky2
  obtain ⟨g7, hg7⟩ : ∃ g, g = w2.heap.size := ⟨_, rfl⟩
  rw [← hg7] at kt3 HRT ⊢
  clear HT3 hg7
  have s3 := hB3.size
  go_wp2_with (refine wpList_load_mid rfl 31 (.tmp 7) rfl g7 0 rfl (us TB) _ HRT.out Tryd.underlying31 rfl HZT.out ?_)
  refine (HREF.out A n c bs w3 ((hr.below hB3).up s3) HB.out (by omega)).mono ?_
  rintro e w4 ⟨rfl, hb4⟩
  have hB4 := hB3.trans (hb4.mono s3)
  have s4 := hB4.size
  have kx4 := kx3.below hb4 kx3.lt
  have ky4 := ky3.below hb4 ky3.lt
  have kt4 := kt3.below hb4 kt3.lt
  clear hB3 kx3 ky3 kt3 hb4 HRT s3
  have hdl := dg_lt bs
  have hdn := dg_len bs
  obtain ⟨D, eD⟩ : ∃ D, dg bs = D := ⟨_, rfl⟩
  rw [eD] at hdl hdn ⊢
  have HD := Lib.hid eD
  have HDL := Lib.hid hdl
  have hsz : (bys D).length = 32 := by rw [bys_len]; exact hdn
  have HSZ := Lib.hid hsz
  have HTN := Lib.hid (there_new w4 ZH 24 (bys D).toArray.size (by rw [ZH_size]; exact hsz.symm))
  have hB5 : Below w.heap.size w ((w4.alloc (.cells ZH 24)).setCells w4.heap.size 0 (bys D)) := Below.setCells' (hB4.alloc s4 _) _ _ s4 _
  have kx5 := (kx4.alloc (.cells ZH 24)).setCells w4.heap.size 0 (bys D) (by have := kx4.lt; omega)
  have ky5 := (ky4.alloc (.cells ZH 24)).setCells w4.heap.size 0 (bys D) (by have := ky4.lt; omega)
  have kt5 := (kt4.alloc (.cells ZH 24)).setCells w4.heap.size 0 (bys D) (by have := kt4.lt; omega)
  have kd5 : Blk ((w4.alloc (.cells ZH 24)).setCells w4.heap.size 0 (bys D)) w4.heap.size 24 (bys D).toArray := (Blk.new w4 24 ZH).stored (bys D) (by rw [ZH_size]; exact hsz)
  clear hdl hdn hsz eD
  go_upto_region 7 with (first
    | (refine wpList_of_wp rfl fun K hK => wp_alloc_arr 24 rfl ZH Tryd.zero24 (hK _ _ ?_))
    | (refine wpList_store_mid rfl 24 (.tmp 8) (.tmp 19) rfl w4.heap.size 0 (bys D).toArray rfl rfl HTN.out (by rw [show (bys D).toArray.size = 32 from HSZ.out]; exact Tryd.size24) (all_oneCell_toArray (bys_one _)) ?_))
  change Code.wp _ _ _ _ ((w4.alloc (.cells ZH 24)).setCells w4.heap.size 0 (bys D))
  generalize (w4.alloc (.cells ZH 24)).setCells w4.heap.size 0 (bys D) = w5 at *
  clear hB4 kx4 ky4 kt4
  obtain ⟨g8, hg8⟩ : ∃ g, g = w4.heap.size := ⟨_, rfl⟩
  rw [← hg8] at kd5 ⊢
  clear HTN hg8
  have s5 := hB5.size
  have hbf0 : Buf (w5.alloc (.cells #[] 5)) w5.heap.size (.slice (some ⟨w5.heap.size, 0, none⟩) 0 0) 0 [] := Buf.new w5 w5.heap.size 5 #[] (0, 0) (Nat.le_refl _) (by unfold maxLen; simp)
  have hb0 : Below w5.heap.size w5 (w5.alloc (.cells #[] 5)) := (Below.refl _ _).alloc (Nat.le_refl _) _
  have rx := (kx5.rd 32 lx).below hb0
  go_wp2_with (at_builtin; refine wpList_append_buf _ rfl (.tmp 21) (.tmp 22) 22 rfl w5.heap.size 5 i5 (.int .u8 0) 1 Tryd.underlying22 hi5 hz0 hz1 hz2 rfl rfl hbf0 rfl rx (bys_one _) ?b1 ?b2 ?b3 ?next)
  case b1 => unfold maxLen; omega
  case b2 => omega
  case b3 => simp
  case next =>
    intro v1 w6 r1 r2 r3
    have hb6 : Below w5.heap.size w5 w6 := hb0.trans ((Below.refl _ _).grown r2 (by simp) fun k hk => (hbf0.lt k hk).1)
    have bf6 : Buf w6 w5.heap.size v1 32 (bys xs) := by simpa using r1
    have s6 := hb6.size
    have ry := (ky5.rd 32 ly).below hb6
    clear r1 r2 r3 hbf0 hb0 rx
    go_wp2_with (at_builtin; refine wpList_append_buf _ rfl (.tmp 24) (.tmp 25) 22 rfl w5.heap.size 5 i5 (.int .u8 0) 1 Tryd.underlying22 hi5 hz0 hz1 hz2 rfl rfl bf6 rfl ry (bys_one _) ?b4 ?b5 s6 ?next2)
    case b4 => unfold maxLen; omega
    case b5 => omega
    case next2 =>
      intro v2 w7 r1 r2 r3
      have hl7 : Laid w6 w5.heap.size v1 w7 v2 (32 + 32) _ := ⟨r1, r2, r3⟩
      have hb7 := hb6.trans (hl7.below bf6 s6)
      have bf7 := hl7.buf
      rw [← bys_app] at bf7
      obtain ⟨AM, cM, rfl, hcM, hrM⟩ := bf7.slice
      have hB7 := hB5.trans (hb7.mono s5)
      have s7 := hB7.size
      have kx7 := kx5.below hb7 kx5.lt
      have ky7 := ky5.below hb7 ky5.lt
      have kt7 := kt5.below hb7 kt5.lt
      have kd7 := kd5.below hb7 kd5.lt
      clear r1 r2 r3 hl7 bf6 hb6 ry bf7 hb7 kx5 ky5 kt5 kd5 hB5 s5 s6
      have HRT := Lib.hid kt7.range
      have hbxy := Lib.hid (show ∀ c ∈ xs ++ ys, c < 256 from fun x hx => (List.mem_append.1 hx).elim (HBX.out x) (HBY.out x))
      go_wp2_with (refine wpList_load_mid rfl 31 (.tmp 7) rfl g7 0 rfl (us TB) _ HRT.out Tryd.underlying31 rfl HZT.out ?_)
      refine (HREF.out AM (32 + 32) cM (xs ++ ys) w7 hrM hbxy.out (by omega)).mono ?_
      rintro e w8 ⟨rfl, hb8⟩
      have hB8 := hB7.trans (hb8.mono s7)
      have s8 := hB8.size
      have kx8 := kx7.below hb8 kx7.lt
      have ky8 := ky7.below hb8 ky7.lt
      have kt8 := kt7.below hb8 kt7.lt
      have kd8 := kd7.below hb8 kd7.lt
      clear hB7 kx7 ky7 kt7 kd7 hb8 HRT hrM
      have hel := dg_lt (xs ++ ys)
      have hen := dg_len (xs ++ ys)
      obtain ⟨E, eE⟩ : ∃ E, dg (xs ++ ys) = E := ⟨_, rfl⟩
      rw [eE] at hel hen ⊢
      have HEE := Lib.hid eE
      have HEL := Lib.hid hel
      have hsz : (bys E).length = 32 := by rw [bys_len]; exact hen
      have HSE := Lib.hid hsz
      have HTN := Lib.hid (there_new w8 ZH 24 (bys E).toArray.size (by rw [ZH_size]; exact hsz.symm))
      have hBW : Below w.heap.size w ((w8.alloc (.cells ZH 24)).setCells w8.heap.size 0 (bys E)) := Below.setCells' (hB8.alloc s8 _) _ _ s8 _
      have kx9 := (kx8.alloc (.cells ZH 24)).setCells w8.heap.size 0 (bys E) (by have := kx8.lt; omega)
      have ky9 := (ky8.alloc (.cells ZH 24)).setCells w8.heap.size 0 (bys E) (by have := ky8.lt; omega)
      have kt9 := (kt8.alloc (.cells ZH 24)).setCells w8.heap.size 0 (bys E) (by have := kt8.lt; omega)
      have kd9 := (kd8.alloc (.cells ZH 24)).setCells w8.heap.size 0 (bys E) (by have := kd8.lt; omega)
      have ke9 : Blk ((w8.alloc (.cells ZH 24)).setCells w8.heap.size 0 (bys E)) w8.heap.size 24 (bys E).toArray := (Blk.new w8 24 ZH).stored (bys E) (by rw [ZH_size]; exact hsz)
      clear hel hen hsz eE
      go_upto_region 11 with (first
        | (refine wpList_of_wp rfl fun K hK => wp_alloc_arr 24 rfl ZH Tryd.zero24 (hK _ _ ?_))
        | (refine wpList_store_mid rfl 24 (.tmp 10) (.tmp 29) rfl w8.heap.size 0 (bys E).toArray rfl rfl HTN.out (by rw [show (bys E).toArray.size = 32 from HSE.out]; exact Tryd.size24) (all_oneCell_toArray (bys_one _)) ?_))
      change Code.wp _ _ _ _ ((w8.alloc (.cells ZH 24)).setCells w8.heap.size 0 (bys E))
      generalize (w8.alloc (.cells ZH 24)).setCells w8.heap.size 0 (bys E) = W at *
      clear hB8 kx8 ky8 kt8 kd8
      obtain ⟨g10, hg10⟩ : ∃ g, g = w8.heap.size := ⟨_, rfl⟩
      rw [← hg10] at ke9 ⊢
      clear HTN hg10
      have HBW := Lib.hid hBW
      have HWs := Lib.hid hBW.size
      have HX := Lib.hid (show ∀ wx, Below W.heap.size W wx → wx.rangeAt w.heap.size 0 (bys xs) from fun wx hx => (kx9.below hx kx9.lt).range)
      have HY := Lib.hid (show ∀ wx, Below W.heap.size W wx → wx.rangeAt (w.heap.size + 1) 0 (bys ys) from fun wx hx => (ky9.below hx ky9.lt).range)
      have HTB := Lib.hid (show ∀ wx, Below W.heap.size W wx → wx.rangeAt g7 0 (us TB) from fun wx hx => (kt9.below hx kt9.lt).range)
      have HC10 := Lib.hid (show ∀ wx, Below W.heap.size W wx → Calls Tryd.prog 10 #[.slice A n c] wx fun e w' => e = .returned (.agg (bys (dg D)).toArray) ∧ Below wx.heap.size wx w' from fun wx hx => by
        have hB := hBW.trans (hx.mono hBW.size)
        rw [← HD.out]
        exact double_any A n c bs wx ((hr.below hB).up hB.size) HB.out (by omega) hc hcm (HT.out.below hB HT.out.1))
      have HC9a := Lib.hid (show ∀ wx, Below W.heap.size W wx → Calls Tryd.prog 9 #[.agg (us TB).toArray, .slice (some ⟨g8, 0, none⟩) 32 32] wx fun e w' => e = .returned (.agg (bys (dg D)).toArray) ∧ Below wx.heap.size wx w' from fun wx hx =>
        HREF.out _ 32 32 D wx ((kd9.below hx kd9.lt).rd 32 HSZ.out) HDL.out (by omega))
      have HC11 := Lib.hid (show ∀ wx, Below W.heap.size W wx → Calls Tryd.prog 11 #[.agg (bys xs).toArray, .agg (bys ys).toArray] wx fun e w' => e = .returned (.agg (bys (dg E)).toArray) ∧ Below wx.heap.size wx w' from fun wx hx => by
        have hB := hBW.trans (hx.mono hBW.size)
        rw [← HEE.out]
        exact pair_any xs ys HLX.out HLY.out HBX.out HBY.out wx (HT.out.below hB HT.out.1))
      have HC9b := Lib.hid (show ∀ wx, Below W.heap.size W wx → Calls Tryd.prog 9 #[.agg (us TB).toArray, .slice (some ⟨g10, 0, none⟩) 32 32] wx fun e w' => e = .returned (.agg (bys (dg E)).toArray) ∧ Below wx.heap.size wx w' from fun wx hx =>
        HREF.out _ 32 32 E wx ((ke9.below hx ke9.lt).rd 32 HSE.out) HEL.out (by omega))
      have d1 := dg_len D
      have d2 := dg_len E
      generalize dg D = F1 at *
      generalize dg E = F2 at *
      have heq1 := fun wx => dg_eql hi5 F1 d1 wx
      have heq2 := fun wx => dg_eql hi5 F2 d2 wx
      have hgd1 := fun wx => run_eqGuard_agg (P := Tryd.prog) wx .eql 25 (.tmp 31) (.tmp 34) (bys F1).toArray (bys F1).toArray Tryd.eqg25
      have hgd2 := fun wx => run_eqGuard_agg (P := Tryd.prog) wx .eql 25 (.tmp 39) (.tmp 42) (bys F2).toArray (bys F2).toArray Tryd.eqg25
      clear d1 d2 hBW kx9 ky9 kt9 kd9 ke9
      go_wp2_with fail
      refine wp_region_noPanic ?_
      refine wp_region_held_drew (S := (fun wx => Below W.heap.size W wx)) (by kernel_rfl) (Below.drew' (Below.refl _ _)) (fun hHeld => ?_)
      refine wpAnyH_take (i := 0) (v := ?_) (by simp only [List.getElem?_toArray, List.getElem?_cons_succ, List.getElem?_cons_zero]; rfl) (by kernel_rfl) (by kernel_rfl) (by kernel_rfl) (fun _ _ _ h => h) (Or.inl ⟨by rfl, ?_⟩) (by assumption) ?_
      rotate_left
      · (intro w hSw; (try dsimp only at hSw); go_simp; (try with_reducible rfl))
      (try simp only [Act.put, List.setIfInBounds_toArray, List.set_cons_zero, List.set_cons_succ])
      refine wpAnyH_take (i := 2) (v := .agg (us TB).toArray) (by simp only [List.getElem?_toArray, List.getElem?_cons_succ, List.getElem?_cons_zero]; rfl) (by kernel_rfl) (by kernel_rfl) (by kernel_rfl) (fun _ _ _ h => h) (yieldsIf_load_mid (by rfl) 31 (.tmp 7) rfl g7 0 rfl (us TB) _ (fun wx hx => HTB.out wx hx) Tryd.underlying31 rfl HZT.out) (by assumption) ?_
      (try simp only [Act.put, List.setIfInBounds_toArray, List.set_cons_zero, List.set_cons_succ])
      refine wpAnyH_take (i := 3) (v := ?_) (by simp only [List.getElem?_toArray, List.getElem?_cons_succ, List.getElem?_cons_zero]; rfl) (by kernel_rfl) (by kernel_rfl) (by kernel_rfl) (fun _ _ _ h => h) (Or.inl ⟨by rfl, ?_⟩) (by assumption) ?_
      rotate_left
      · (intro w hSw; (try dsimp only at hSw); go_simp; (try with_reducible rfl))
      (try simp only [Act.put, List.setIfInBounds_toArray, List.set_cons_zero, List.set_cons_succ])
      refine wpAnyH_ready (rs := [1]) (by kernel_rfl) (by simp) ?_
      refine AllReadyH.cons (by simp only [List.getElem?_toArray, List.getElem?_cons_succ, List.getElem?_cons_zero]; rfl) (fun K hK => ?_) AllReadyH.nil
      go_simp
      refine (HC10.out _ hHeld).mono ?_
      rintro ee k ⟨rfl, hb_k⟩
      refine hK.out _ _ ?_ (fun hHeld => ?_)
      · exact hHeld.trans (hb_k.mono hHeld.size)
      clear hK K
      (try simp only [Act.put, List.setIfInBounds_toArray, List.set_cons_zero, List.set_cons_succ])
      refine wpAnyH_ready (rs := [4]) (by kernel_rfl) (by simp) ?_
      refine AllReadyH.cons (by simp only [List.getElem?_toArray, List.getElem?_cons_succ, List.getElem?_cons_zero]; rfl) (fun K hK => ?_) AllReadyH.nil
      go_simp
      refine (HC9a.out _ hHeld).mono ?_
      rintro ee l ⟨rfl, hb_l⟩
      refine hK.out _ _ ?_ (fun hHeld => ?_)
      · exact hHeld.trans (hb_l.mono hHeld.size)
      clear hK K
      (try simp only [Act.put, List.setIfInBounds_toArray, List.set_cons_zero, List.set_cons_succ])
      refine wpAnyH_take (i := 5) (v := .bool true) (by simp only [List.getElem?_toArray, List.getElem?_cons_succ, List.getElem?_cons_zero]; rfl) (by kernel_rfl) (by kernel_rfl) (by kernel_rfl) (fun _ _ _ h => h) (Or.inl ⟨by rfl, ?_⟩) (by assumption) ?_
      · (intro w hSw; (try dsimp only at hSw); go_simp; skip)
      (try simp only [Act.put, List.setIfInBounds_toArray, List.set_cons_zero, List.set_cons_succ])
      refine wpAnyH_take (i := 6) (v := ?_) (by simp only [List.getElem?_toArray, List.getElem?_cons_succ, List.getElem?_cons_zero]; rfl) (by kernel_rfl) (by kernel_rfl) (by kernel_rfl) (fun _ _ _ h => h) (Or.inl ⟨by rfl, ?_⟩) (by assumption) ?_
      rotate_left
      · (intro w hSw; (try dsimp only at hSw); go_simp; (try with_reducible rfl))
      (try simp only [Act.put, List.setIfInBounds_toArray, List.set_cons_zero, List.set_cons_succ])
      refine wpAnyH_take (i := 7) (v := .agg (bys xs).toArray) (by simp only [List.getElem?_toArray, List.getElem?_cons_succ, List.getElem?_cons_zero]; rfl) (by kernel_rfl) (by kernel_rfl) (by kernel_rfl) (fun _ _ _ h => h) (yieldsIf_load_mid (by rfl) 25 (.tmp 4) rfl w.heap.size 0 rfl (bys xs) _ (fun wx hx => HX.out wx hx) Tryd.underlying25 rfl HZX.out) (by assumption) ?_
      (try simp only [Act.put, List.setIfInBounds_toArray, List.set_cons_zero, List.set_cons_succ])
      refine wpAnyH_take (i := 8) (v := .agg (bys ys).toArray) (by simp only [List.getElem?_toArray, List.getElem?_cons_succ, List.getElem?_cons_zero]; rfl) (by kernel_rfl) (by kernel_rfl) (by kernel_rfl) (fun _ _ _ h => h) (yieldsIf_load_mid (by rfl) 25 (.tmp 5) rfl (w.heap.size + 1) 0 rfl (bys ys) _ (fun wx hx => HY.out wx hx) Tryd.underlying25 rfl HZY.out) (by assumption) ?_
      (try simp only [Act.put, List.setIfInBounds_toArray, List.set_cons_zero, List.set_cons_succ])
      refine wpAnyH_take (i := 10) (v := .agg (us TB).toArray) (by simp only [List.getElem?_toArray, List.getElem?_cons_succ, List.getElem?_cons_zero]; rfl) (by kernel_rfl) (by kernel_rfl) (by kernel_rfl) (fun _ _ _ h => h) (yieldsIf_load_mid (by rfl) 31 (.tmp 7) rfl g7 0 rfl (us TB) _ (fun wx hx => HTB.out wx hx) Tryd.underlying31 rfl HZT.out) (by assumption) ?_
      (try simp only [Act.put, List.setIfInBounds_toArray, List.set_cons_zero, List.set_cons_succ])
      refine wpAnyH_take (i := 11) (v := ?_) (by simp only [List.getElem?_toArray, List.getElem?_cons_succ, List.getElem?_cons_zero]; rfl) (by kernel_rfl) (by kernel_rfl) (by kernel_rfl) (fun _ _ _ h => h) (Or.inl ⟨by rfl, ?_⟩) (by assumption) ?_
      rotate_left
      · (intro w hSw; (try dsimp only at hSw); go_simp; (try with_reducible rfl))
      (try simp only [Act.put, List.setIfInBounds_toArray, List.set_cons_zero, List.set_cons_succ])
      refine wpAnyH_ready (rs := [9]) (by kernel_rfl) (by simp) ?_
      refine AllReadyH.cons (by simp only [List.getElem?_toArray, List.getElem?_cons_succ, List.getElem?_cons_zero]; rfl) (fun K hK => ?_) AllReadyH.nil
      go_simp
      refine (HC11.out _ hHeld).mono ?_
      rintro ee m ⟨rfl, hb_m⟩
      refine hK.out _ _ ?_ (fun hHeld => ?_)
      · exact hHeld.trans (hb_m.mono hHeld.size)
      clear hK K
      (try simp only [Act.put, List.setIfInBounds_toArray, List.set_cons_zero, List.set_cons_succ])
      refine wpAnyH_ready (rs := [12]) (by kernel_rfl) (by simp) ?_
      refine AllReadyH.cons (by simp only [List.getElem?_toArray, List.getElem?_cons_succ, List.getElem?_cons_zero]; rfl) (fun K hK => ?_) AllReadyH.nil
      go_simp
      refine (HC9b.out _ hHeld).mono ?_
      rintro ee n ⟨rfl, hb_n⟩
      refine hK.out _ _ ?_ (fun hHeld => ?_)
      · exact hHeld.trans (hb_n.mono hHeld.size)
      clear hK K
      (try simp only [Act.put, List.setIfInBounds_toArray, List.set_cons_zero, List.set_cons_succ])
      refine wpAnyH_take (i := 13) (v := .bool true) (by simp only [List.getElem?_toArray, List.getElem?_cons_succ, List.getElem?_cons_zero]; rfl) (by kernel_rfl) (by kernel_rfl) (by kernel_rfl) (fun _ _ _ h => h) (Or.inl ⟨by rfl, ?_⟩) (by assumption) ?_
      · (intro w hSw; (try dsimp only at hSw); go_simp; skip)
      (try simp only [Act.put, List.setIfInBounds_toArray, List.set_cons_zero, List.set_cons_succ])
      refine wpAnyH_take (i := 14) (v := ?_) (by simp only [List.getElem?_toArray, List.getElem?_cons_succ, List.getElem?_cons_zero]; rfl) (by kernel_rfl) (by kernel_rfl) (by kernel_rfl) (fun _ _ _ h => h) (Or.inl ⟨by rfl, ?_⟩) (by assumption) ?_
      rotate_left
      · (intro w hSw; (try dsimp only at hSw); go_simp; (try with_reducible rfl))
      (try simp only [Act.put, List.setIfInBounds_toArray, List.set_cons_zero, List.set_cons_succ])
      refine wpAnyH_take (i := 15) (v := ?_) (by simp only [List.getElem?_toArray, List.getElem?_cons_succ, List.getElem?_cons_zero]; rfl) (by kernel_rfl) (by kernel_rfl) (by kernel_rfl) (fun _ _ _ h => h) (Or.inl ⟨by rfl, ?_⟩) (by assumption) ?_
      rotate_left
      · (intro w hSw; (try dsimp only at hSw); go_simp; (try with_reducible rfl))
      (try simp only [Act.put, List.setIfInBounds_toArray, List.set_cons_zero, List.set_cons_succ])
      refine wpAnyH_done (by kernel_rfl) ?_ _
      refine NoPanic.normal ?_
      have hfin := HBW.out.trans (hHeld.mono HWs.out)
      go_wp2_with fail
      go_ret
      exact ⟨rfl, hfin⟩
end Go.Proofs.YtibgbbplbefdpabDoor
