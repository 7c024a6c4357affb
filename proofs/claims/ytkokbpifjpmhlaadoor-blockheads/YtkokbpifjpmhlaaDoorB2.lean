/- The row above; the root. -/
import Derived.Test.YtkokbpifjpmhlaaDoorB1
namespace Go.Proofs.YtkokbpifjpmhlaaDoor
set_option linter.unusedSimpArgs false
set_option linter.unusedVariables false
open Go.RowKit

theorem Tryd.info23 : (Tryd.prog.info? 23).map (fun i => (i.zero, i.size, i.bytes)) = some (some (.agg ZH), 32, 32) := by kernel_rfl
theorem sizeH (x : List Nat) (h : IsH x) : (Tryd.prog.info? 23).map (·.size) = some (bys x).length := by rw [bys_len, h.1]; exact Tryd.size23
theorem pairs_any (x y : List Nat) (hx : IsH x) (hy : IsH y) (w : World) (ht : TabAt w) :
    Calls Tryd.prog 17 #[.agg (bys x).toArray, .agg (bys y).toArray] w fun e w' => e = .returned (.agg (bys (pr x y)).toArray) ∧ Below w.heap.size w w' := pair_any x y hx.1 hy.1 hx.2 hy.2 w ht
/-- A literal of one digest. -/
theorem lit_hash (w : World) (x : List Nat) (hx : IsH x) (parts : Array (Nat × Value)) (hp : parts.toList = [(0, .agg (bys x).toArray)]) :
    (Instr.buildSlice 39 1 parts).run Tryd.prog w = .ok (.slice (some ⟨w.heap.size, 0, none⟩) 1 1) (w.alloc (.cells (flatH [x]).toArray 23)) := by
  obtain ⟨i0, hi, hz0, hz1, hz2⟩ := info_parts Tryd.info23
  exact run_buildSlice_rows (P := Tryd.prog) w 39 23 i0 _ 32 Tryd.underlying39 hi hz0 hz1 (by omega) 1 [bys x] rfl (by omega) (by simp [bys_len, hx.1]) (by omega) parts hp
/-- A digest laid behind a row of the call's own. -/
theorem app_hash (w : World) (base : Nat) (v : Value) (n : Nat) (hs : List (List Nat)) (hown : w.ownsRow base 23 32 v n (flatH hs)) (x : List Nat) (hx : IsH x) (hn : (n : Int) ≤ 1000000) (hbase : base ≤ w.heap.size) :
    ∃ v' w', (Builtin.append_ #[39, 39] 39 #[v, .slice (some ⟨w.heap.size, 0, none⟩) 1 1]).run Tryd.prog (w.alloc (.cells (flatH [x]).toArray 23)) = .ok v' w' ∧ w'.ownsRow base 23 32 v' (n + 1) (flatH (hs ++ [x])) ∧ w.grownBy w' v.ownBlock ∧ (v'.ownBlock = v.ownBlock ∨ ∀ k, v'.ownBlock = some k → w.heap.size ≤ k) := by
  obtain ⟨i0, hi, hz0, hz1, hz2⟩ := info_parts Tryd.info23
  obtain ⟨v', w', h1, h2, h3, h4⟩ := run_appN (P := Tryd.prog) (w.alloc (.cells (flatH [x]).toArray 23)) base 39 39 23 i0 _ 32 32 Tryd.underlying39 hi hz0 hz1 hz2 rfl (by omega) (hown.alloc _) (RdN.new w 32 1 (flatH [x]) 23 (0, 0) (by rw [flatH_len _ (by simpa using hx)]; rfl)) (c := 1) (flatH_one _) (by unfold maxLen; omega) (by omega) (by simp; omega)
  refine ⟨v', w', h1, by rw [flatH_app]; exact h2, (World.grownBy_alloc w _ _).trans h3, h4.imp id fun e k hk => ?_⟩
  have := e k hk
  simp at this
  omega

set_option maxHeartbeats 2000000 in
set_option maxRecDepth 100000 in
theorem above_any (A : Option Addr) (n c : Nat) (hs : List (List Nat)) (w : World) (hr : RH w w.heap.size A n hs) (h0 : 0 < n) (hn : (n : Int) ≤ 100000) (ht : TabAt w) :
    Calls Tryd.prog 21 #[.slice A n c] w fun e w' => ∃ v', e = .returned v' ∧ w'.ownsRow w.heap.size 23 32 v' ((n + 1) / 2) (flatH (abv hs)) ∧ Below w.heap.size w w' := by
  obtain ⟨i0, hi, hz0, hz1, hz2⟩ := info_parts Tryd.info23
  have HT := Lib.hid ht
  have HL := Lib.hid hr.len
  obtain ⟨m, HM⟩ : ∃ m, Hid (m = (n + 1) / 2) := ⟨_, Lib.hid rfl⟩
  have hmn : (n : Int) - (n : Int) / 2 = (m : Int) := by have := HM.out; omega
  have HAB : Hid (abv hs = ups hs m) := Lib.hid (by rw [abv, HL.out, HM.out])
  rw [HAB.out, ← HM.out]
  have hm1 : (m : Int) ≤ 100000 := by have := HM.out; omega
  obtain ⟨W1, hmk, hown, hg1⟩ := run_makeSlice_owned (P := Tryd.prog) w w.heap.size 39 23 i0 _ 32 Tryd.underlying39 hi hz0 hz1 .i64 .i64 m (by omega) (by rw [hz2]; omega) (by unfold maxLen; omega) (Nat.le_refl _)
  have hB1 : Below w.heap.size w W1 := (Below.refl _ _).grown hg1 (Nat.le_refl _) (fun k hk => by cases hk)
  have HMN := Lib.hid hmn
  clear ht hg1
  go_enter Tryd.func21, Tryd.ntmps21
  go_wp2_with fail
  go_loopg [3, 4] m (fun k up i wr => ∃ j q : Nat, k = m - j ∧ j ≤ m ∧ Hid (q = 2 * j) ∧ i = .int .i64 (q : Int) ∧ wr.ownsRow w.heap.size 23 32 up j (flatH (ups hs j)) ∧ Below w.heap.size w wr)
  case atStart => exact ⟨0, 0, rfl, Nat.zero_le _, Lib.hid rfl, rfl, hown, hB1⟩
  case round =>
    obtain ⟨j, q, hk, hj, HQ, rfl, ho, hb⟩ := hrel
    have HK := Lib.hid hk
    clear hk hown hB1 hmk
    by_cases hlt : j < m
    · have hq : q < n := by have := HQ.out; have := HM.out; omega
      have hq' : (q : Int) < (n : Int) := by omega
      obtain ⟨g, off, rfl, hg, hx1⟩ := hr.elem q hq
      obtain ⟨g2, off2, e2, hg2, hx2⟩ := hr.elem (oth n q) (oth_lt n q h0)
      injection e2 with e2
      injection e2 with e2 e3
      subst e2 e3
      have hX := hr.isAt q hq
      have hY := hr.isAt (oth n q) (oth_lt n q h0)
      have HP : Hid (ups hs (j + 1) = ups hs j ++ [pr (hs.getD q []) (hs.getD (oth n q) [])]) := Lib.hid (by
        rw [ups_succ, HQ.out, oth_even, HL.out])
      have hy : oth n q < n := oth_lt n q h0
      have HOT := other_any (some ⟨g, off, none⟩) n c q
      obtain ⟨y, hye⟩ : ∃ y, oth n q = y := ⟨_, rfl⟩
      rw [hye] at hx2 hY HP hy HOT
      have hy' : (y : Int) < (n : Int) := by omega
      have HX1 : Hid (∀ wx, Below w.heap.size w wx → wx.rangeAt g (off + q * 32) (bys (hs.getD q []))) := Lib.hid fun wx hx => rangeAt_below hx1 hx hg
      have HX2 : Hid (∀ wx, Below w.heap.size w wx → wx.rangeAt g (off + y * 32) (bys (hs.getD y []))) := Lib.hid fun wx hx => rangeAt_below hx2 hx hg
      have HOT' := Lib.hid (fun wx => HOT wx h0 (by omega) (by omega))
      have HXX := Lib.hid hX
      have HYY := Lib.hid hY
      clear hx1 hx2 hX hY HOT hye hz0 hz1 hz2 hi
      generalize hs.getD q [] = X at *
      generalize hs.getD y [] = Y at *
      go_wp2_with fail
      refine wp_region_noPanic ?_
      refine wp_region_held_drew (S := (fun wx => Below w.heap.size w wx)) (by kernel_rfl) (Below.drew' hb) (fun hHeld => ?_)
      refine wpAnyH_take (i := 0) (v := ?_) (by simp only [List.getElem?_toArray, List.getElem?_cons_succ, List.getElem?_cons_zero]; rfl) (by kernel_rfl) (by kernel_rfl) (by kernel_rfl) (fun _ _ _ h => h) (Or.inl ⟨by rfl, ?_⟩) (by assumption) ?_
      rotate_left
      · (intro w hSw; (try dsimp only at hSw); go_simp; (try with_reducible rfl))
      (try simp only [Act.put, List.setIfInBounds_toArray, List.set_cons_zero, List.set_cons_succ])
      refine wpAnyH_take (i := 1) (v := ?_) (by simp only [List.getElem?_toArray, List.getElem?_cons_succ, List.getElem?_cons_zero]; rfl) (by kernel_rfl) (by kernel_rfl) (by kernel_rfl) (fun _ _ _ h => h) (Or.inl ⟨by rfl, ?_⟩) (by assumption) ?_
      rotate_left
      · (intro w hSw; (try dsimp only at hSw); go_simp; (try with_reducible rfl))
      (try simp only [Act.put, List.setIfInBounds_toArray, List.set_cons_zero, List.set_cons_succ])
      refine wpAnyH_take (i := 2) (v := ?_) (by simp only [List.getElem?_toArray, List.getElem?_cons_succ, List.getElem?_cons_zero]; rfl) (by kernel_rfl) (by kernel_rfl) (by kernel_rfl) (fun _ _ _ h => h) (Or.inl ⟨by rfl, ?_⟩) (by assumption) ?_
      rotate_left
      · (intro w hSw; (try dsimp only at hSw); go_simp; (try with_reducible rfl))
      (try simp only [Act.put, List.setIfInBounds_toArray, List.set_cons_zero, List.set_cons_succ])
      refine wpAnyH_take (i := 3) (v := ?_) (by simp only [List.getElem?_toArray, List.getElem?_cons_succ, List.getElem?_cons_zero]; rfl) (by kernel_rfl) (by kernel_rfl) (by kernel_rfl) (fun _ _ _ h => h) (Or.inl ⟨by rfl, ?_⟩) (by assumption) ?_
      rotate_left
      · (intro w hSw; (try dsimp only at hSw); go_simp; (try with_reducible rfl))
      (try simp only [Act.put, List.setIfInBounds_toArray, List.set_cons_zero, List.set_cons_succ])
      refine wpAnyH_take (i := 4) (v := .agg (bys X).toArray) (by simp only [List.getElem?_toArray, List.getElem?_cons_succ, List.getElem?_cons_zero]; rfl) (by kernel_rfl) (by kernel_rfl) (by kernel_rfl) (fun _ _ _ h => h) (yieldsIf_load_mid (by rfl) 23 (.tmp 21) rfl g (off + q * 32) rfl (bys X) _ (fun wx hx => HX1.out wx hx) Tryd.underlying23 rfl (sizeH X HXX.out)) (by assumption) ?_
      (try simp only [Act.put, List.setIfInBounds_toArray, List.set_cons_zero, List.set_cons_succ])
      refine wpAnyH_take (i := 5) (v := ?_) (by simp only [List.getElem?_toArray, List.getElem?_cons_succ, List.getElem?_cons_zero]; rfl) (by kernel_rfl) (by kernel_rfl) (by kernel_rfl) (fun _ _ _ h => h) (Or.inl ⟨by rfl, ?_⟩) (by assumption) ?_
      rotate_left
      · (intro w hSw; (try dsimp only at hSw); go_simp; (try with_reducible rfl))
      (try simp only [Act.put, List.setIfInBounds_toArray, List.set_cons_zero, List.set_cons_succ])
      refine wpAnyH_take (i := 6) (v := ?_) (by simp only [List.getElem?_toArray, List.getElem?_cons_succ, List.getElem?_cons_zero]; rfl) (by kernel_rfl) (by kernel_rfl) (by kernel_rfl) (fun _ _ _ h => h) (Or.inl ⟨by rfl, ?_⟩) (by assumption) ?_
      rotate_left
      · (intro w hSw; (try dsimp only at hSw); go_simp; (try with_reducible rfl))
      (try simp only [Act.put, List.setIfInBounds_toArray, List.set_cons_zero, List.set_cons_succ])
      refine wpAnyH_take (i := 7) (v := ?_) (by simp only [List.getElem?_toArray, List.getElem?_cons_succ, List.getElem?_cons_zero]; rfl) (by kernel_rfl) (by kernel_rfl) (by kernel_rfl) (fun _ _ _ h => h) (Or.inl ⟨by rfl, ?_⟩) (by assumption) ?_
      rotate_left
      · (intro w hSw; (try dsimp only at hSw); go_simp; (try with_reducible rfl))
      (try simp only [Act.put, List.setIfInBounds_toArray, List.set_cons_zero, List.set_cons_succ])
      refine wpAnyH_ready (rs := [8]) (by kernel_rfl) (by simp) ?_
      refine AllReadyH.cons (by simp only [List.getElem?_toArray, List.getElem?_cons_succ, List.getElem?_cons_zero]; rfl) (fun K hK => ?_) AllReadyH.nil
      go_simp
      refine (HOT'.out _).mono ?_
      rintro ee w2 ⟨rfl, rfl⟩
      refine hK.out _ _ ?_ (fun hHeld => ?_)
      · exact hHeld
      clear hK K
      (try simp only [Act.put, List.setIfInBounds_toArray, List.set_cons_zero, List.set_cons_succ])
      refine wpAnyH_take (i := 9) (v := ?_) (by simp only [List.getElem?_toArray, List.getElem?_cons_succ, List.getElem?_cons_zero]; rfl) (by kernel_rfl) (by kernel_rfl) (by kernel_rfl) (fun _ _ _ h => h) (Or.inl ⟨by rfl, ?_⟩) (by assumption) ?_
      rotate_left
      · (intro w hSw; (try dsimp only at hSw); go_simp; (try with_reducible rfl))
      (try simp only [Act.put, List.setIfInBounds_toArray, List.set_cons_zero, List.set_cons_succ])
      refine wpAnyH_take (i := 10) (v := .agg (bys Y).toArray) (by simp only [List.getElem?_toArray, List.getElem?_cons_succ, List.getElem?_cons_zero]; rfl) (by kernel_rfl) (by kernel_rfl) (by kernel_rfl) (fun _ _ _ h => h) (yieldsIf_load_mid (by rfl) 23 (.tmp 27) rfl g (off + y * 32) rfl (bys Y) _ (fun wx hx => HX2.out wx hx) Tryd.underlying23 rfl (sizeH Y HYY.out)) (by assumption) ?_
      (try simp only [Act.put, List.setIfInBounds_toArray, List.set_cons_zero, List.set_cons_succ])
      refine wpAnyH_ready (rs := [11]) (by kernel_rfl) (by simp) ?_
      refine AllReadyH.cons (by simp only [List.getElem?_toArray, List.getElem?_cons_succ, List.getElem?_cons_zero]; rfl) (fun K hK => ?_) AllReadyH.nil
      go_simp
      refine (pairs_any X Y HXX.out HYY.out _ (HT.out.below hHeld HT.out.1)).mono ?_
      rintro ee w2 ⟨rfl, hb2⟩
      have hB2 : Below w.heap.size w w2 := hHeld.trans (hb2.mono hHeld.size)
      have ho2 : w2.ownsRow w.heap.size 23 32 u3 j (flatH (ups hs j)) := ownN_below (show wr.drew.ownsRow w.heap.size 23 32 u3 j (flatH (ups hs j)) from ho) hb2 (fun k hk => (ho.lt k hk).2)
      have HD := Lib.hid (pr_is X Y)
      generalize pr X Y = D at *
      refine hK.out _ _ ?_ (fun hHeld => ?_)
      · exact hB2
      clear hK K
      (try simp only [Act.put, List.setIfInBounds_toArray, List.set_cons_zero, List.set_cons_succ])
      obtain ⟨v3, w3, hrun, ho3, hg3, _⟩ := app_hash w2 w.heap.size u3 j (ups hs j) ho2 D HD.out (by omega) hB2.size
      have hB3 : Below w.heap.size w w3 := hB2.grown hg3 hB2.size (fun k hk => (ho2.lt k hk).1)
      refine wpAnyH_ready (rs := [12]) (by kernel_rfl) (by simp) ?_
      refine AllReadyH.cons (by simp only [List.getElem?_toArray, List.getElem?_cons_succ, List.getElem?_cons_zero]; rfl) (fun K hK => ?_) AllReadyH.nil
      refine (if_pos rfl).mpr (wp_buildSlice_run 39 1 _ rfl (lit_hash w2 D HD.out _ (by first | rfl | (simp; done) | (simp; rfl))) ?_)
      refine hK.out _ _ ?_ (fun hHeld => ?_)
      · exact hB2.alloc hB2.size _
      clear hK K
      (try simp only [Act.put, List.setIfInBounds_toArray, List.set_cons_zero, List.set_cons_succ])
      refine wpAnyH_ready (rs := [13]) (by kernel_rfl) (by simp) ?_
      refine AllReadyH.cons (by simp only [List.getElem?_toArray, List.getElem?_cons_succ, List.getElem?_cons_zero]; rfl) (fun K hK => ?_) AllReadyH.nil
      refine operwp_append_run rfl (.tmp 18) (.tmp 30) 39 rfl rfl rfl hrun ?_
      refine hK.out _ _ ?_ (fun hHeld => ?_)
      · exact hB3
      clear hK K
      (try simp only [Act.put, List.setIfInBounds_toArray, List.set_cons_zero, List.set_cons_succ])
      refine wpAnyH_take (i := 14) (v := ?_) (by simp only [List.getElem?_toArray, List.getElem?_cons_succ, List.getElem?_cons_zero]; rfl) (by kernel_rfl) (by kernel_rfl) (by kernel_rfl) (fun _ _ _ h => h) (Or.inl ⟨by rfl, ?_⟩) (by assumption) ?_
      rotate_left
      · (intro w hSw; (try dsimp only at hSw); go_simp; (try with_reducible rfl))
      (try simp only [Act.put, List.setIfInBounds_toArray, List.set_cons_zero, List.set_cons_succ])
      refine wpAnyH_done (by kernel_rfl) ?_ _
      refine NoPanic.normal ?_
      rw [← HP.out] at ho3
      have HO3 := Lib.hid ho3
      clear hHeld ho3 ho2 hg3 hrun hb2 hB2 ho hb
      go_wp2_with fail
      go_roundg (m - (j + 1))
      case measure => have := HK.out; omega
      case rel => exact ⟨j + 1, q + 2, rfl, by omega, Lib.hid (by have := HQ.out; omega), by go_num, HO3.out, hB3⟩
    · have hdec : decide ((q : Int) < (n : Int)) = false := by have := HQ.out; have := HM.out; simp; omega
      have hnq : ¬ q < n := by have := HQ.out; have := HM.out; omega
      have hjm : j = m := by omega
      subst hjm
      go_wp2_with fail
      go_ret
      exact ⟨_, rfl, ho, hb⟩
end Go.Proofs.YtkokbpifjpmhlaaDoor
