/- The walk of BlockRoots. -/
import Derived.Test.YtnlmejpimjjaaaaDoorQ5
namespace Go.Proofs.YtnlmejpimjjaaaaDoor
set_option linter.unusedSimpArgs false
set_option linter.unusedVariables false
open Go.RowKit

set_option maxHeartbeats 1000000 in
set_option maxRecDepth 100000 in
theorem roots_long (A : Option Addr) (n c : Nat) (w : World) (ht : TabAt w) (h : (12 : Int) < n) :
    Calls Tryd.prog 6 #[.slice A n c] w fun e w' => e = .returned (.bool true) ∧ Below w.heap.size w w' := by
  have HT := Lib.hid ht
  clear ht
  go_enter Tryd.func6, Tryd.ntmps6
  go_wp2_with fail
  refine (bhead_any _ HT.out).mono ?_
  rintro e w1 ⟨rfl, hb1⟩
  go_wp2_with fail
  go_ret
  exact ⟨rfl, hb1⟩

set_option maxHeartbeats 2000000 in
set_option maxRecDepth 100000 in
theorem roots_walk (A : Option Addr) (n c : Nat) (hs : List (List Nat)) (w : World) (hr : RH w w.heap.size A n hs) (ht : TabAt w) (h : (n : Int) ≤ 12) :
    Calls Tryd.prog 6 #[.slice A n c] w fun e w' => e = .returned (.bool true) ∧ Below w.heap.size w w' := by
  have HT := Lib.hid ht
  have HI := Lib.hid hr.is_
  have HL := Lib.hid hr.len
  have hd12 : decide ((12 : Int) < (n : Int)) = false := by simp; omega
  obtain ⟨i0, hi0, hz0, hz1, hz2⟩ := info_parts Tryd.info33
  obtain ⟨TB, eTB⟩ : ∃ TB, TAB = TB := ⟨_, rfl⟩
  have HTB := Lib.hid eTB
  have HMK := Lib.hid (fun w => show Calls Tryd.prog 29 #[] w fun e w' => e = .returned (.agg (us TB).toArray) ∧ Below w.heap.size w w' by rw [← eTB]; exact make_any w)
  clear ht eTB
  go_enter Tryd.func6, Tryd.ntmps6
  go_wp2_with fail
  refine (bhead_any _ HT.out).mono ?_
  rintro e w1 ⟨rfl, hb1⟩
  have hB2 : Below w.heap.size w (w1.alloc (.cells #[] 33)) := hb1.alloc hb1.size _
  obtain ⟨v3, w3, hrun, ho3, hg3, _⟩ := run_appN (P := Tryd.prog) (w1.alloc (.cells #[] 33)) w1.heap.size 63 63 33 i0 _ 32 32 Tryd.underlying63 hi0 hz0 hz1 hz2 rfl (by omega) (World.ownsRow_lit (base := w1.heap.size) (e := 33) (size := 32) w1 #[] 0 (Nat.le_refl _) (by unfold maxLen; omega) rfl) (hr.below hB2).rd (c := c) (flatH_one _) (by unfold maxLen; omega) (by omega) (by simp)
  have hB3 : Below w.heap.size w w3 := hB2.grown hg3 hB2.size (fun k hk => by simp [Value.ownBlock] at hk; have := hb1.size; omega)
  have ho3' : w3.ownsRow w1.heap.size 33 32 v3 n (flatH hs) := by simpa using ho3
  have HRUN := Lib.hid hrun
  obtain ⟨A3, c3, rfl, hc3, hm3, hr3⟩ := own_RH ho3' HL.out HI.out
  clear hrun ho3 hg3 hB2 ho3' hz0 hz1 hz2 hi0
  go_upto_region 6 with (first
    | (refine arm_append 63 (.tmp 11) (.tmp 12) (v' := ?_) (w' := ?_) ?hr2 ?_; case hr2 => exact HRUN.out))
  go_wp2_with fail
  refine (root_any A3 n c3 hs w3 hr3 (by omega) (HT.out.below hB3 HT.out.1)).mono ?_
  rintro e w4 ⟨rfl, hb4⟩
  have hB4 := hB3.trans (hb4.mono hB3.size)
  have hr4 := (hr3.below hb4).up hb4.size
  have HRI : Hid (IsH (root hs)) := Lib.hid (root_is hs HI.out)
  obtain ⟨R, hRe⟩ : ∃ R, root hs = R := ⟨_, rfl⟩
  rw [hRe] at HRI ⊢
  have HRE := Lib.hid hRe
  have HSR := Lib.hid (sizeH R HRI.out)
  have hrl : (bys R).length = 32 := by rw [bys_len, HRI.out.1]
  have HTN := Lib.hid (there_new w4 ZH 33 (bys R).toArray.size (by rw [ZH_size]; simp [hrl]))
  have hb5 : Below w4.heap.size w4 ((w4.alloc (.cells ZH 33)).setCells w4.heap.size 0 (bys R)) := Below.setCells' ((Below.refl _ _).alloc (Nat.le_refl _) _) _ _ (Nat.le_refl _) _
  have bkR : Blk ((w4.alloc (.cells ZH 33)).setCells w4.heap.size 0 (bys R)) w4.heap.size 33 (bys R).toArray := (Blk.new w4 33 ZH).stored (bys R) (by rw [ZH_size, hrl])
  have hB5 := hB4.trans (hb5.mono hB4.size)
  have hr5 := (hr4.below hb5).up hb5.size
  clear hRe hb1 hr3 hB3 hb4 hr4 hrl hb5 hB4
  go_upto_region 7 with (first
    | (refine wpList_of_wp rfl fun K hK => wp_alloc_arr 33 rfl ZH Tryd.zero33 (hK _ _ ?_))
    | (refine wpList_store_mid rfl 33 (.tmp 4) (.tmp 15) rfl w4.heap.size 0 (bys R).toArray rfl rfl HTN.out (by simpa using HSR.out) (all_oneCell_toArray (bys_one _)) ?_))
  change Code.wp _ _ _ _ ((w4.alloc (.cells ZH 33)).setCells w4.heap.size 0 (bys R))
  generalize (w4.alloc (.cells ZH 33)).setCells w4.heap.size 0 (bys R) = W at *
  generalize w4.heap.size = gR at *
  clear HTN HRUN
  go_wp2_with fail
  go_loopg [18] n (fun k i wr => ∃ (j : Nat), k = n - j ∧ j ≤ n ∧ i = .int .i64 (j : Int) ∧ ∃ m, wr = W.drewN m)
  case atStart => exact ⟨0, rfl, Nat.zero_le _, rfl, 0, rfl⟩
  case round =>
    obtain ⟨j, hk, hj, rfl, m, rfl⟩ := hrel
    have HK := Lib.hid hk
    clear hk
    by_cases hlt : j < n
    · have hlt' : (j : Int) < (n : Int) := by omega
      obtain ⟨g, off, rfl, hg, hx1⟩ := hr.elem j hlt
      obtain ⟨g3, off3, rfl, hg3, hx3⟩ := hr5.elem j hlt
      have HY := Lib.hid (hr.isAt j hlt)
      have hx1' := rangeAt_below hx1 hB5 hg
      generalize hs.getD j [] = Y at *
      have HX1 : Hid (∀ wx : World, wx.heap = W.heap → wx.rangeAt g (off + j * 32) (bys Y)) := Lib.hid fun wx e i u hu => by
        have := hx1' i u hu
        rw [← this]; exact World.cell?_of_block (w := W) (a := ⟨g, off + j * 32 + i, none⟩) (by rw [e])
      have HX3 : Hid (∀ wx : World, wx.heap = W.heap → wx.rangeAt g3 (off3 + j * 32) (bys Y)) := Lib.hid fun wx e i u hu => by
        have := hx3 i u hu
        rw [← this]; exact World.cell?_of_block (w := W) (a := ⟨g3, off3 + j * 32 + i, none⟩) (by rw [e])
      have heq := fun wx => h_eql1 Y HY.out wx
      have hgd := fun wx => run_eqGuard_agg (P := Tryd.prog) wx .neq 33 (.tmp 24) (.tmp 28) (bys Y).toArray (bys Y).toArray Tryd.eqg33
      clear hx1 hx3 hx1'
      go_wp2_with fail
      refine wp_region_noPanic ?_
      refine wp_region_held_drew (S := (fun wx => ∃ m, wx = W.drewN m)) (by kernel_rfl) (⟨m + 1, rfl⟩) (fun hHeld => ?_)
      refine wpAnyH_take (i := 0) (v := ?_) (by simp only [List.getElem?_toArray, List.getElem?_cons_succ, List.getElem?_cons_zero]; rfl) (by kernel_rfl) (by kernel_rfl) (by kernel_rfl) (fun _ _ _ h => h) (Or.inl ⟨by rfl, ?_⟩) (by assumption) ?_
      rotate_left
      · (intro w hSw; (try dsimp only at hSw); go_simp; (try with_reducible rfl))
      (try simp only [Act.put, List.setIfInBounds_toArray, List.set_cons_zero, List.set_cons_succ])
      refine wpAnyH_take (i := 1) (v := ?_) (by simp only [List.getElem?_toArray, List.getElem?_cons_succ, List.getElem?_cons_zero]; rfl) (by kernel_rfl) (by kernel_rfl) (by kernel_rfl) (fun _ _ _ h => h) (Or.inl ⟨by rfl, ?_⟩) (by assumption) ?_
      rotate_left
      · (intro w hSw; (try dsimp only at hSw); go_simp; (try with_reducible rfl))
      (try simp only [Act.put, List.setIfInBounds_toArray, List.set_cons_zero, List.set_cons_succ])
      refine wpAnyH_take (i := 2) (v := ?_) (by simp only [List.getElem?_toArray, List.getElem?_cons_succ, List.getElem?_cons_zero]; rfl) (by kernel_rfl) (by kernel_rfl) (by kernel_rfl) (fun _ _ _ h => h) (Or.inl ⟨by rfl, ?_⟩) (by assumption) ?_
      rotate_left
      · (intro w hSw; (try dsimp only at hSw); go_simp; (try with_reducible rfl))
      (try simp only [Act.put, List.setIfInBounds_toArray, List.set_cons_zero, List.set_cons_succ])
      refine wpAnyH_take (i := 3) (v := .agg (bys Y).toArray) (by simp only [List.getElem?_toArray, List.getElem?_cons_succ, List.getElem?_cons_zero]; rfl) (by kernel_rfl) (by kernel_rfl) (by kernel_rfl) (fun _ _ _ h => h) (yieldsIf_load_mid (by rfl) 33 (.tmp 23) rfl g3 (off3 + j * 32) rfl (bys Y) _ (fun wx hx => HX3.out wx (by obtain ⟨m, rfl⟩ := hx; rfl)) Tryd.underlying33 rfl (sizeH Y HY.out)) (by assumption) ?_
      (try simp only [Act.put, List.setIfInBounds_toArray, List.set_cons_zero, List.set_cons_succ])
      refine wpAnyH_take (i := 4) (v := ?_) (by simp only [List.getElem?_toArray, List.getElem?_cons_succ, List.getElem?_cons_zero]; rfl) (by kernel_rfl) (by kernel_rfl) (by kernel_rfl) (fun _ _ _ h => h) (Or.inl ⟨by rfl, ?_⟩) (by assumption) ?_
      rotate_left
      · (intro w hSw; (try dsimp only at hSw); go_simp; (try with_reducible rfl))
      (try simp only [Act.put, List.setIfInBounds_toArray, List.set_cons_zero, List.set_cons_succ])
      refine wpAnyH_take (i := 5) (v := ?_) (by simp only [List.getElem?_toArray, List.getElem?_cons_succ, List.getElem?_cons_zero]; rfl) (by kernel_rfl) (by kernel_rfl) (by kernel_rfl) (fun _ _ _ h => h) (Or.inl ⟨by rfl, ?_⟩) (by assumption) ?_
      rotate_left
      · (intro w hSw; (try dsimp only at hSw); go_simp; (try with_reducible rfl))
      (try simp only [Act.put, List.setIfInBounds_toArray, List.set_cons_zero, List.set_cons_succ])
      refine wpAnyH_take (i := 6) (v := ?_) (by simp only [List.getElem?_toArray, List.getElem?_cons_succ, List.getElem?_cons_zero]; rfl) (by kernel_rfl) (by kernel_rfl) (by kernel_rfl) (fun _ _ _ h => h) (Or.inl ⟨by rfl, ?_⟩) (by assumption) ?_
      rotate_left
      · (intro w hSw; (try dsimp only at hSw); go_simp; (try with_reducible rfl))
      (try simp only [Act.put, List.setIfInBounds_toArray, List.set_cons_zero, List.set_cons_succ])
      refine wpAnyH_take (i := 7) (v := .agg (bys Y).toArray) (by simp only [List.getElem?_toArray, List.getElem?_cons_succ, List.getElem?_cons_zero]; rfl) (by kernel_rfl) (by kernel_rfl) (by kernel_rfl) (fun _ _ _ h => h) (yieldsIf_load_mid (by rfl) 33 (.tmp 27) rfl g (off + j * 32) rfl (bys Y) _ (fun wx hx => HX1.out wx (by obtain ⟨m, rfl⟩ := hx; rfl)) Tryd.underlying33 rfl (sizeH Y HY.out)) (by assumption) ?_
      (try simp only [Act.put, List.setIfInBounds_toArray, List.set_cons_zero, List.set_cons_succ])
      refine wpAnyH_take (i := 8) (v := .bool false) (by simp only [List.getElem?_toArray, List.getElem?_cons_succ, List.getElem?_cons_zero]; rfl) (by kernel_rfl) (by kernel_rfl) (by kernel_rfl) (fun _ _ _ h => h) (Or.inl ⟨by rfl, ?_⟩) (by assumption) ?_
      · (intro w hSw; (try dsimp only at hSw); go_simp; skip)
      (try simp only [Act.put, List.setIfInBounds_toArray, List.set_cons_zero, List.set_cons_succ])
      refine wpAnyH_done (by kernel_rfl) ?_ _
      refine NoPanic.normal ?_
      clear heq hgd hHeld
      go_wp2_with fail
      go_roundg (n - (j + 1))
      case measure => have := HK.out; omega
      case rel => exact ⟨j + 1, rfl, by omega, by go_num, m + 1, rfl⟩
    · have hdec : decide ((j : Int) < (n : Int)) = false := by simp; omega
      have hnj : ¬ j < n := hlt
      have HXR : Hid (∀ wx, Below W.heap.size W wx → wx.rangeAt gR 0 (bys R)) := Lib.hid fun wx hx => (bkR.below hx bkR.lt).range
      have HRAW := Lib.hid (fun wx (hx : Below W.heap.size W wx) => raw_any A n c hs wx ((hr.below (hB5.trans (hx.mono hB5.size))).up (hB5.trans (hx.mono hB5.size)).size) (by omega))
      have heq := fun wx => h_eql1 R HRI.out wx
      have hgd := fun wx => run_eqGuard_agg (P := Tryd.prog) wx .eql 33 (.tmp 31) (.tmp 35) (bys R).toArray (bys R).toArray Tryd.eqg33
      have HB5 := Lib.hid hB5
      have s5 := hB5.size
      clear bkR hr5 hB5
      go_wp2_with fail
      refine wp_region_noPanic ?_
      refine wp_region_held_drew (S := (fun wx => Below W.heap.size W wx)) (by kernel_rfl) (Below.drewN' (Below.refl _ _) (m + 1)) (fun hHeld => ?_)
      refine wpAnyH_take (i := 0) (v := .agg (bys R).toArray) (by simp only [List.getElem?_toArray, List.getElem?_cons_succ, List.getElem?_cons_zero]; rfl) (by kernel_rfl) (by kernel_rfl) (by kernel_rfl) (fun _ _ _ h => h) (yieldsIf_load_mid (by rfl) 33 (.tmp 4) rfl gR (0) rfl (bys R) _ (fun wx hx => HXR.out wx hx) Tryd.underlying33 rfl (HSR.out)) (by assumption) ?_
      (try simp only [Act.put, List.setIfInBounds_toArray, List.set_cons_zero, List.set_cons_succ])
      refine wpAnyH_take (i := 2) (v := ?_) (by simp only [List.getElem?_toArray, List.getElem?_cons_succ, List.getElem?_cons_zero]; rfl) (by kernel_rfl) (by kernel_rfl) (by kernel_rfl) (fun _ _ _ h => h) (Or.inl ⟨by rfl, ?_⟩) (by assumption) ?_
      rotate_left
      · (intro w hSw; (try dsimp only at hSw); go_simp; (try with_reducible rfl))
      (try simp only [Act.put, List.setIfInBounds_toArray, List.set_cons_zero, List.set_cons_succ])
      refine wpAnyH_ready (rs := [1]) (by kernel_rfl) (by simp) ?_
      refine AllReadyH.cons (by simp only [List.getElem?_toArray, List.getElem?_cons_succ, List.getElem?_cons_zero]; rfl) (fun K hK => ?_) AllReadyH.nil
      go_simp
      refine (HMK.out _).mono ?_
      rintro ee w6 ⟨rfl, hb6⟩
      have hc6 := hHeld.trans (hb6.mono hHeld.size)
      refine hK.out _ _ ?_ (fun hHeld => ?_)
      · exact hc6
      clear hK K
      (try simp only [Act.put, List.setIfInBounds_toArray, List.set_cons_zero, List.set_cons_succ])
      refine wpAnyH_ready (rs := [3]) (by kernel_rfl) (by simp) ?_
      refine AllReadyH.cons (by simp only [List.getElem?_toArray, List.getElem?_cons_succ, List.getElem?_cons_zero]; rfl) (fun K hK => ?_) AllReadyH.nil
      go_simp
      refine (HRAW.out _ hHeld).mono ?_
      rintro ee w7 ⟨v7, rfl, ho7, hb7⟩
      have hc7 := hHeld.trans (hb7.mono hHeld.size)
      obtain ⟨A7, c7, rfl, _, _, hr7⟩ := own_b32 ho7 HL.out HI.out
      refine hK.out _ _ ?_ (fun hHeld => ?_)
      · exact hc7
      clear hK K
      (try simp only [Act.put, List.setIfInBounds_toArray, List.set_cons_zero, List.set_cons_succ])
      refine wpAnyH_ready (rs := [4]) (by kernel_rfl) (by simp) ?_
      refine AllReadyH.cons (by simp only [List.getElem?_toArray, List.getElem?_cons_succ, List.getElem?_cons_zero]; rfl) (fun K hK => ?_) AllReadyH.nil
      go_simp
      refine (refroot_any TB HTB.out A7 n c7 hs w7 hr7 (by omega)).mono ?_
      rw [HRE.out]
      rintro ee w8 ⟨rfl, hb8⟩
      have hc8 := hHeld.trans (hb8.mono hHeld.size)
      refine hK.out _ _ ?_ (fun hHeld => ?_)
      · exact hc8
      clear hK K
      (try simp only [Act.put, List.setIfInBounds_toArray, List.set_cons_zero, List.set_cons_succ])
      refine wpAnyH_take (i := 5) (v := .bool true) (by simp only [List.getElem?_toArray, List.getElem?_cons_succ, List.getElem?_cons_zero]; rfl) (by kernel_rfl) (by kernel_rfl) (by kernel_rfl) (fun _ _ _ h => h) (Or.inl ⟨by rfl, ?_⟩) (by assumption) ?_
      · (intro w hSw; (try dsimp only at hSw); go_simp; skip)
      (try simp only [Act.put, List.setIfInBounds_toArray, List.set_cons_zero, List.set_cons_succ])
      refine wpAnyH_take (i := 6) (v := ?_) (by simp only [List.getElem?_toArray, List.getElem?_cons_succ, List.getElem?_cons_zero]; rfl) (by kernel_rfl) (by kernel_rfl) (by kernel_rfl) (fun _ _ _ h => h) (Or.inl ⟨by rfl, ?_⟩) (by assumption) ?_
      rotate_left
      · (intro w hSw; (try dsimp only at hSw); go_simp; (try with_reducible rfl))
      (try simp only [Act.put, List.setIfInBounds_toArray, List.set_cons_zero, List.set_cons_succ])
      refine wpAnyH_done (by kernel_rfl) ?_ _
      refine NoPanic.normal ?_
      have hfin := HB5.out.trans (hHeld.mono s5)
      clear heq hgd
      go_wp2_with fail
      go_ret
      exact ⟨rfl, hfin⟩
end Go.Proofs.YtnlmejpimjjaaaaDoor
