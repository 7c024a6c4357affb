/- The reference: the row above. -/
import Derived.Test.YtkokbpifjpmhlaaDoorQ1
namespace Go.Proofs.YtkokbpifjpmhlaaDoor
set_option linter.unusedSimpArgs false
set_option linter.unusedVariables false
open Go.RowKit

theorem Tryd.info22 : (Tryd.prog.info? 22).map (fun i => (i.zero, i.size, i.bytes)) = some (some (.agg ZH), 32, 32) := by kernel_rfl
theorem lit_b32 (w : World) (x : List Nat) (hx : IsH x) (parts : Array (Nat × Value)) (hp : parts.toList = [(0, .agg (bys x).toArray)]) :
    (Instr.buildSlice 42 1 parts).run Tryd.prog w = .ok (.slice (some ⟨w.heap.size, 0, none⟩) 1 1) (w.alloc (.cells (flatH [x]).toArray 22)) := by
  obtain ⟨i0, hi, hz0, hz1, hz2⟩ := info_parts Tryd.info22
  exact run_buildSlice_rows (P := Tryd.prog) w 42 22 i0 _ 32 Tryd.underlying42 hi hz0 hz1 (by omega) 1 [bys x] rfl (by omega) (by simp [bys_len, hx.1]) (by omega) parts hp
theorem app_b32 (w : World) (base : Nat) (v : Value) (n : Nat) (hs : List (List Nat)) (hown : w.ownsRow base 22 32 v n (flatH hs)) (x : List Nat) (hx : IsH x) (hn : (n : Int) ≤ 1000000) (hbase : base ≤ w.heap.size) :
    ∃ v' w', (Builtin.append_ #[42, 42] 42 #[v, .slice (some ⟨w.heap.size, 0, none⟩) 1 1]).run Tryd.prog (w.alloc (.cells (flatH [x]).toArray 22)) = .ok v' w' ∧ w'.ownsRow base 22 32 v' (n + 1) (flatH (hs ++ [x])) ∧ w.grownBy w' v.ownBlock ∧ (v'.ownBlock = v.ownBlock ∨ ∀ k, v'.ownBlock = some k → w.heap.size ≤ k) := by
  obtain ⟨i0, hi, hz0, hz1, hz2⟩ := info_parts Tryd.info22
  obtain ⟨v', w', h1, h2, h3, h4⟩ := run_appN (P := Tryd.prog) (w.alloc (.cells (flatH [x]).toArray 22)) base 42 42 22 i0 _ 32 32 Tryd.underlying42 hi hz0 hz1 hz2 rfl (by omega) (hown.alloc _) (RdN.new w 32 1 (flatH [x]) 22 (0, 0) (by rw [flatH_len _ (by simpa using hx)]; rfl)) (c := 1) (flatH_one _) (by unfold maxLen; omega) (by omega) (by simp; omega)
  refine ⟨v', w', h1, by rw [flatH_app]; exact h2, (World.grownBy_alloc w _ _).trans h3, h4.imp id fun e k hk => ?_⟩
  have := e k hk
  simp at this
  omega
theorem own_b32 {w : World} {base : Nat} {v : Value} {n : Nat} {hs : List (List Nat)} (h : w.ownsRow base 22 32 v n (flatH hs)) (hl : hs.length = n) (hi : ∀ x ∈ hs, IsH x) : ∃ A c, v = .slice A n c ∧ n ≤ c ∧ c ≤ maxLen ∧ RH w w.heap.size A n hs := by
  obtain ⟨A, c, e, h1, h2, h3⟩ := own_rdN h
  exact ⟨A, c, e, h1, h2, hl, hi, h3⟩

set_option maxHeartbeats 2000000 in
set_option maxRecDepth 100000 in
theorem refabove_any (TB : List Int) (eTB : TAB = TB) (A : Option Addr) (n c : Nat) (hs : List (List Nat)) (w : World) (hr : RH w w.heap.size A n hs) (hn : (n : Int) ≤ 100000) :
    Calls Tryd.prog 31 #[.agg (us TB).toArray, .slice A n c] w fun e w' => ∃ v', e = .returned v' ∧ w'.ownsRow (w.heap.size + 1) 22 32 v' ((n + 1) / 2) (flatH (abv hs)) ∧ Below w.heap.size w w' := by
  have HL := Lib.hid hr.len
  have HTB := Lib.hid eTB
  have tbl : (us TB).length = 72 := by rw [us_len, ← eTB]; decide
  have HZT := Lib.hid (show (Tryd.prog.info? 47).map (·.size) = some (us TB).length by rw [tbl]; exact Tryd.size47)
  obtain ⟨m, HM⟩ : ∃ m, Hid (m = (n + 1) / 2) := ⟨_, Lib.hid rfl⟩
  have HAB : Hid (abv hs = ups hs m) := Lib.hid (by rw [abv, HL.out, HM.out])
  rw [HAB.out, ← HM.out]
  have hm1 : (m : Int) ≤ 100000 := by have := HM.out; omega
  have kt0 : Blk ((w.alloc (.cells (us TB).toArray 47)).alloc (.cells #[] 22)) w.heap.size 47 (us TB).toArray := heap_alloc2_old w _ _
  have hB0 : Below w.heap.size w ((w.alloc (.cells (us TB).toArray 47)).alloc (.cells #[] 22)) := ((Below.refl _ _).alloc (Nat.le_refl _) _).alloc (by simp) _
  have ho0 : ((w.alloc (.cells (us TB).toArray 47)).alloc (.cells #[] 22)).ownsRow (w.heap.size + 1) 22 32 (.slice (some ⟨w.heap.size + 1, 0, none⟩) 0 0) 0 (flatH (ups hs 0)) := by
    have := World.ownsRow_lit (base := w.heap.size + 1) (e := 22) (size := 32) (w.alloc (.cells (us TB).toArray 47)) #[] 0 (by simp) (by unfold maxLen; omega) rfl
    rw [show flatH (ups hs 0) = [] from rfl]
    simpa using this
  clear eTB tbl
  go_enter Tryd.func31, Tryd.ntmps31
  go_wp2_with fail
  generalize (w.alloc (.cells (us TB).toArray 47)).alloc (.cells #[] 22) = w0 at *
  go_loopg [5, 6] m (fun k up i wr => ∃ j : Nat, k = m - j ∧ j ≤ m ∧ i = .int .i64 (j : Int) ∧ wr.ownsRow (w.heap.size + 1) 22 32 up j (flatH (ups hs j)) ∧ Blk wr w.heap.size 47 (us TB).toArray ∧ Below w.heap.size w wr)
  case atStart => exact ⟨0, rfl, Nat.zero_le _, rfl, ho0, kt0, hB0⟩
  case round =>
    obtain ⟨j, hk, hj, rfl, ho, kt, hb⟩ := hrel
    have HK := Lib.hid hk
    clear hk ho0 kt0 hB0
    by_cases hlt : j < m
    · obtain ⟨q, hq⟩ : ∃ q, q = 2 * j := ⟨_, rfl⟩
      have HQ := Lib.hid hq
      have hqn : q < n := by have := HM.out; omega
      have hw2 : IntKind.i64.wrap (2 * (j : Int)) = (q : Int) := by rw [IntWalk.i64_in _ (by omega)]; omega
      have hqi : 2 * (j : Int) < (n : Int) := by omega
      have hqi' : 2 * j < n := by omega
      obtain ⟨g, off, rfl, hg, hx1⟩ := hr.elem q hqn
      have HXX := Lib.hid (hr.isAt q hqn)
      have HX1 : Hid (∀ wx, Below w.heap.size w wx → wx.rangeAt g (off + q * 32) (bys (hs.getD q []))) := Lib.hid fun wx hx => rangeAt_below hx1 hx hg
      have HRT : Hid (∀ wx, Below wr.heap.size wr wx → wx.rangeAt w.heap.size 0 (us TB)) := Lib.hid fun wx hx => (kt.below hx kt.lt).range
      obtain ⟨r, hrr⟩ : ∃ r, r = q + 1 := ⟨_, rfl⟩
      have hw3 : IntKind.i64.wrap ((q : Int) + 1) = (r : Int) := by rw [IntWalk.i64_in _ (by omega)]; omega
      by_cases h2 : r < n
      · have h2i : 2 * (j : Int) + 1 < (n : Int) := by omega
        have h2n : 2 * j + 1 < n := by omega
        obtain ⟨g2, off2, e2, hg2, hx2⟩ := hr.elem r h2
        injection e2 with e2
        injection e2 with e2 e3
        subst e2 e3
        have HYY := Lib.hid (hr.isAt r h2)
        have HX2 : Hid (∀ wx, Below w.heap.size w wx → wx.rangeAt g (off + r * 32) (bys (hs.getD r []))) := Lib.hid fun wx hx => rangeAt_below hx2 hx hg
        have HP : Hid (ups hs (j + 1) = ups hs j ++ [pr (hs.getD q []) (hs.getD r [])]) := Lib.hid (by
          rw [ups_succ, ← hq, HL.out, show min (q + 1) (n - 1) = r by omega])
        have hrn : (r : Int) < (n : Int) := by omega
        have hqn' : (q : Int) < (n : Int) := by omega
        clear hx1 hx2 hq hrr
        generalize hs.getD q [] = X at *
        generalize hs.getD r [] = Y at *
        go_wp2_with fail
        refine wp_region_noPanic ?_
        refine wp_region_held_drew (S := (fun wx => Below w.heap.size w wx ∧ wx.rangeAt w.heap.size 0 (us TB))) (by kernel_rfl) (⟨Below.drew' hb, HRT.out _ (Below.drew' (Below.refl _ _))⟩) (fun hHeld => ?_)
        refine wpAnyH_take (i := 0) (v := ?_) (by simp only [List.getElem?_toArray, List.getElem?_cons_succ, List.getElem?_cons_zero]; rfl) (by kernel_rfl) (by kernel_rfl) (by kernel_rfl) (fun _ _ _ h => h) (Or.inl ⟨by rfl, ?_⟩) (by assumption) ?_
        rotate_left
        · (intro w hSw; (try dsimp only at hSw); go_simp; (try with_reducible rfl))
        (try simp only [Act.put, List.setIfInBounds_toArray, List.set_cons_zero, List.set_cons_succ])
        refine wpAnyH_take (i := 2) (v := ?_) (by simp only [List.getElem?_toArray, List.getElem?_cons_succ, List.getElem?_cons_zero]; rfl) (by kernel_rfl) (by kernel_rfl) (by kernel_rfl) (fun _ _ _ h => h) (Or.inl ⟨by rfl, ?_⟩) (by assumption) ?_
        rotate_left
        · (intro w hSw; (try dsimp only at hSw); go_simp; (try with_reducible rfl))
        (try simp only [Act.put, List.setIfInBounds_toArray, List.set_cons_zero, List.set_cons_succ])
        refine wpAnyH_take (i := 3) (v := ?_) (by simp only [List.getElem?_toArray, List.getElem?_cons_succ, List.getElem?_cons_zero]; rfl) (by kernel_rfl) (by kernel_rfl) (by kernel_rfl) (fun _ _ _ h => h) (Or.inl ⟨by rfl, ?_⟩) (by assumption) ?_
        rotate_left
        · (intro w hSw; (try dsimp only at hSw); go_simp; (try with_reducible rfl))
        (try simp only [Act.put, List.setIfInBounds_toArray, List.set_cons_zero, List.set_cons_succ])
        refine wpAnyH_take (i := 1) (v := .agg (us TB).toArray) (by simp only [List.getElem?_toArray, List.getElem?_cons_succ, List.getElem?_cons_zero]; rfl) (by kernel_rfl) (by kernel_rfl) (by kernel_rfl) (fun _ _ _ h => h) (yieldsIf_load_mid (by rfl) 47 (.tmp 2) rfl w.heap.size (0) rfl (us TB) _ (fun wx hx => hx.2) Tryd.underlying47 rfl (HZT.out)) (by assumption) ?_
        (try simp only [Act.put, List.setIfInBounds_toArray, List.set_cons_zero, List.set_cons_succ])
        refine wpAnyH_take (i := 4) (v := .int .i64 (q : Int)) (by simp only [List.getElem?_toArray, List.getElem?_cons_succ, List.getElem?_cons_zero]; rfl) (by kernel_rfl) (by kernel_rfl) (by kernel_rfl) (fun _ _ _ h => h) (Or.inl ⟨by rfl, ?_⟩) (by assumption) ?_
        · (intro w hSw; (try dsimp only at hSw); go_simp; (try simp [hw2]))
        (try simp only [Act.put, List.setIfInBounds_toArray, List.set_cons_zero, List.set_cons_succ])
        refine wpAnyH_take (i := 5) (v := ?_) (by simp only [List.getElem?_toArray, List.getElem?_cons_succ, List.getElem?_cons_zero]; rfl) (by kernel_rfl) (by kernel_rfl) (by kernel_rfl) (fun _ _ _ h => h) (Or.inl ⟨by rfl, ?_⟩) (by assumption) ?_
        rotate_left
        · (intro w hSw; (try dsimp only at hSw); go_simp; (try with_reducible rfl))
        (try simp only [Act.put, List.setIfInBounds_toArray, List.set_cons_zero, List.set_cons_succ])
        refine wpAnyH_take (i := 6) (v := .agg (bys X).toArray) (by simp only [List.getElem?_toArray, List.getElem?_cons_succ, List.getElem?_cons_zero]; rfl) (by kernel_rfl) (by kernel_rfl) (by kernel_rfl) (fun _ _ _ h => h) (yieldsIf_load_mid (by rfl) 22 (.tmp 26) rfl g (off + q * 32) rfl (bys X) _ (fun wx hx => HX1.out wx hx.1) Tryd.underlying22 rfl (sizeB X HXX.out)) (by assumption) ?_
        (try simp only [Act.put, List.setIfInBounds_toArray, List.set_cons_zero, List.set_cons_succ])
        refine wpAnyH_take (i := 7) (v := ?_) (by simp only [List.getElem?_toArray, List.getElem?_cons_succ, List.getElem?_cons_zero]; rfl) (by kernel_rfl) (by kernel_rfl) (by kernel_rfl) (fun _ _ _ h => h) (Or.inl ⟨by rfl, ?_⟩) (by assumption) ?_
        rotate_left
        · (intro w hSw; (try dsimp only at hSw); go_simp; (try with_reducible rfl))
        (try simp only [Act.put, List.setIfInBounds_toArray, List.set_cons_zero, List.set_cons_succ])
        refine wpAnyH_take (i := 8) (v := ?_) (by simp only [List.getElem?_toArray, List.getElem?_cons_succ, List.getElem?_cons_zero]; rfl) (by kernel_rfl) (by kernel_rfl) (by kernel_rfl) (fun _ _ _ h => h) (Or.inl ⟨by rfl, ?_⟩) (by assumption) ?_
        rotate_left
        · (intro w hSw; (try dsimp only at hSw); go_simp; (try with_reducible rfl))
        (try simp only [Act.put, List.setIfInBounds_toArray, List.set_cons_zero, List.set_cons_succ])
        refine wpAnyH_take (i := 9) (v := .int .i64 (q : Int)) (by simp only [List.getElem?_toArray, List.getElem?_cons_succ, List.getElem?_cons_zero]; rfl) (by kernel_rfl) (by kernel_rfl) (by kernel_rfl) (fun _ _ _ h => h) (Or.inl ⟨by rfl, ?_⟩) (by assumption) ?_
        · (intro w hSw; (try dsimp only at hSw); go_simp; (try simp [hw2]))
        (try simp only [Act.put, List.setIfInBounds_toArray, List.set_cons_zero, List.set_cons_succ])
        refine wpAnyH_take (i := 10) (v := .int .i64 (r : Int)) (by simp only [List.getElem?_toArray, List.getElem?_cons_succ, List.getElem?_cons_zero]; rfl) (by kernel_rfl) (by kernel_rfl) (by kernel_rfl) (fun _ _ _ h => h) (Or.inl ⟨by rfl, ?_⟩) (by assumption) ?_
        · (intro w hSw; (try dsimp only at hSw); go_simp; (try simp [hw3]))
        (try simp only [Act.put, List.setIfInBounds_toArray, List.set_cons_zero, List.set_cons_succ])
        refine wpAnyH_take (i := 11) (v := ?_) (by simp only [List.getElem?_toArray, List.getElem?_cons_succ, List.getElem?_cons_zero]; rfl) (by kernel_rfl) (by kernel_rfl) (by kernel_rfl) (fun _ _ _ h => h) (Or.inl ⟨by rfl, ?_⟩) (by assumption) ?_
        rotate_left
        · (intro w hSw; (try dsimp only at hSw); go_simp; (try with_reducible rfl))
        (try simp only [Act.put, List.setIfInBounds_toArray, List.set_cons_zero, List.set_cons_succ])
        refine wpAnyH_take (i := 12) (v := .agg (bys Y).toArray) (by simp only [List.getElem?_toArray, List.getElem?_cons_succ, List.getElem?_cons_zero]; rfl) (by kernel_rfl) (by kernel_rfl) (by kernel_rfl) (fun _ _ _ h => h) (yieldsIf_load_mid (by rfl) 22 (.tmp 32) rfl g (off + r * 32) rfl (bys Y) _ (fun wx hx => HX2.out wx hx.1) Tryd.underlying22 rfl (sizeB Y HYY.out)) (by assumption) ?_
        (try simp only [Act.put, List.setIfInBounds_toArray, List.set_cons_zero, List.set_cons_succ])
        refine wpAnyH_ready (rs := [13]) (by kernel_rfl) (by simp) ?_
        refine AllReadyH.cons (by simp only [List.getElem?_toArray, List.getElem?_cons_succ, List.getElem?_cons_zero]; rfl) (fun K hK => ?_) AllReadyH.nil
        go_simp
        refine (refpair_any TB HTB.out X Y HXX.out HYY.out _).mono ?_
        rintro ee w2 ⟨rfl, hb2⟩
        have hB2 : Below w.heap.size w w2 := hHeld.1.trans (hb2.mono hHeld.1.size)
        have hb2' : Below wr.heap.size wr w2 := ⟨hb2.os, hb2.tape, hb2.output, hb2.size, hb2.block⟩
        have ho2 : w2.ownsRow (w.heap.size + 1) 22 32 u5 j (flatH (ups hs j)) := ownN_below ho hb2' (fun k hk => (ho.lt k hk).2)
        have kt2 := kt.below hb2' kt.lt
        have HD := Lib.hid (pr_is X Y)
        generalize pr X Y = D at *
        refine hK.out _ _ ?_ (fun hHeld => ?_)
        · exact ⟨hB2, kt2.range⟩
        clear hK K
        (try simp only [Act.put, List.setIfInBounds_toArray, List.set_cons_zero, List.set_cons_succ])
        obtain ⟨v3, w3, hrun, ho3, hg3, _⟩ := app_b32 w2 (w.heap.size + 1) u5 j (ups hs j) ho2 D HD.out (by omega) (by have := hB2.size; have := kt2.lt; omega)
        have hB3 : Below w.heap.size w w3 := hB2.grown hg3 hB2.size (fun k hk => by have := (ho2.lt k hk).1; omega)
        have kt3 : Blk w3 w.heap.size 47 (us TB).toArray := (hg3.block _ kt2.lt (fun e => by have := (ho2.lt _ e.symm).1; omega)).trans kt2
        refine wpAnyH_ready (rs := [14]) (by kernel_rfl) (by simp) ?_
        refine AllReadyH.cons (by simp only [List.getElem?_toArray, List.getElem?_cons_succ, List.getElem?_cons_zero]; rfl) (fun K hK => ?_) AllReadyH.nil
        refine (if_pos rfl).mpr (wp_buildSlice_run 42 1 _ rfl (lit_b32 w2 D HD.out _ (by first | rfl | (simp; done) | (simp; rfl))) ?_)
        refine hK.out _ _ ?_ (fun hHeld => ?_)
        · exact ⟨hB2.alloc hB2.size _, (kt2.alloc _).range⟩
        clear hK K
        (try simp only [Act.put, List.setIfInBounds_toArray, List.set_cons_zero, List.set_cons_succ])
        refine wpAnyH_ready (rs := [15]) (by kernel_rfl) (by simp) ?_
        refine AllReadyH.cons (by simp only [List.getElem?_toArray, List.getElem?_cons_succ, List.getElem?_cons_zero]; rfl) (fun K hK => ?_) AllReadyH.nil
        refine operwp_append_run rfl (.tmp 21) (.tmp 35) 42 rfl rfl rfl hrun ?_
        refine hK.out _ _ ?_ (fun hHeld => ?_)
        · exact ⟨hB3, kt3.range⟩
        clear hK K
        (try simp only [Act.put, List.setIfInBounds_toArray, List.set_cons_zero, List.set_cons_succ])
        refine wpAnyH_take (i := 16) (v := ?_) (by simp only [List.getElem?_toArray, List.getElem?_cons_succ, List.getElem?_cons_zero]; rfl) (by kernel_rfl) (by kernel_rfl) (by kernel_rfl) (fun _ _ _ h => h) (Or.inl ⟨by rfl, ?_⟩) (by assumption) ?_
        rotate_left
        · (intro w hSw; (try dsimp only at hSw); go_simp; (try with_reducible rfl))
        (try simp only [Act.put, List.setIfInBounds_toArray, List.set_cons_zero, List.set_cons_succ])
        refine wpAnyH_done (by kernel_rfl) ?_ _
        refine NoPanic.normal ?_
        rw [← HP.out] at ho3
        have HO3 := Lib.hid ho3
        have HK3 := Lib.hid kt3
        clear hHeld ho3 ho2 hg3 hrun hb2 hB2 ho hb kt kt2 kt3 hb2' hw2 hw3
        go_wp2_with fail
        go_roundg (m - (j + 1))
        case measure => have := HK.out; omega
        case rel => exact ⟨j + 1, rfl, by omega, by go_num, HO3.out, HK3.out, hB3⟩
      · have h2i : decide (2 * (j : Int) + 1 < (n : Int)) = false := by simp; omega
        have h2n : ¬ (2 * (j : Int) + 1 < (n : Int)) := by omega
        have h2n' : ¬ (2 * j + 1 < n) := by omega
        have HP : Hid (ups hs (j + 1) = ups hs j ++ [pr (hs.getD q []) (hs.getD q [])]) := Lib.hid (by
          rw [ups_succ, ← hq, HL.out, show min (q + 1) (n - 1) = q by omega])
        have hqn' : (q : Int) < (n : Int) := by omega
        clear hx1 hq hrr
        generalize hs.getD q [] = X at *
        go_wp2_with fail
        refine wp_region_noPanic ?_
        refine wp_region_held_drew (S := (fun wx => Below w.heap.size w wx ∧ wx.rangeAt w.heap.size 0 (us TB))) (by kernel_rfl) (⟨Below.drew' hb, HRT.out _ (Below.drew' (Below.refl _ _))⟩) (fun hHeld => ?_)
        refine wpAnyH_take (i := 0) (v := ?_) (by simp only [List.getElem?_toArray, List.getElem?_cons_succ, List.getElem?_cons_zero]; rfl) (by kernel_rfl) (by kernel_rfl) (by kernel_rfl) (fun _ _ _ h => h) (Or.inl ⟨by rfl, ?_⟩) (by assumption) ?_
        rotate_left
        · (intro w hSw; (try dsimp only at hSw); go_simp; (try with_reducible rfl))
        (try simp only [Act.put, List.setIfInBounds_toArray, List.set_cons_zero, List.set_cons_succ])
        refine wpAnyH_take (i := 2) (v := ?_) (by simp only [List.getElem?_toArray, List.getElem?_cons_succ, List.getElem?_cons_zero]; rfl) (by kernel_rfl) (by kernel_rfl) (by kernel_rfl) (fun _ _ _ h => h) (Or.inl ⟨by rfl, ?_⟩) (by assumption) ?_
        rotate_left
        · (intro w hSw; (try dsimp only at hSw); go_simp; (try with_reducible rfl))
        (try simp only [Act.put, List.setIfInBounds_toArray, List.set_cons_zero, List.set_cons_succ])
        refine wpAnyH_take (i := 3) (v := ?_) (by simp only [List.getElem?_toArray, List.getElem?_cons_succ, List.getElem?_cons_zero]; rfl) (by kernel_rfl) (by kernel_rfl) (by kernel_rfl) (fun _ _ _ h => h) (Or.inl ⟨by rfl, ?_⟩) (by assumption) ?_
        rotate_left
        · (intro w hSw; (try dsimp only at hSw); go_simp; (try with_reducible rfl))
        (try simp only [Act.put, List.setIfInBounds_toArray, List.set_cons_zero, List.set_cons_succ])
        refine wpAnyH_take (i := 1) (v := .agg (us TB).toArray) (by simp only [List.getElem?_toArray, List.getElem?_cons_succ, List.getElem?_cons_zero]; rfl) (by kernel_rfl) (by kernel_rfl) (by kernel_rfl) (fun _ _ _ h => h) (yieldsIf_load_mid (by rfl) 47 (.tmp 2) rfl w.heap.size (0) rfl (us TB) _ (fun wx hx => hx.2) Tryd.underlying47 rfl (HZT.out)) (by assumption) ?_
        (try simp only [Act.put, List.setIfInBounds_toArray, List.set_cons_zero, List.set_cons_succ])
        refine wpAnyH_take (i := 4) (v := .int .i64 (q : Int)) (by simp only [List.getElem?_toArray, List.getElem?_cons_succ, List.getElem?_cons_zero]; rfl) (by kernel_rfl) (by kernel_rfl) (by kernel_rfl) (fun _ _ _ h => h) (Or.inl ⟨by rfl, ?_⟩) (by assumption) ?_
        · (intro w hSw; (try dsimp only at hSw); go_simp; (try simp [hw2]))
        (try simp only [Act.put, List.setIfInBounds_toArray, List.set_cons_zero, List.set_cons_succ])
        refine wpAnyH_take (i := 5) (v := ?_) (by simp only [List.getElem?_toArray, List.getElem?_cons_succ, List.getElem?_cons_zero]; rfl) (by kernel_rfl) (by kernel_rfl) (by kernel_rfl) (fun _ _ _ h => h) (Or.inl ⟨by rfl, ?_⟩) (by assumption) ?_
        rotate_left
        · (intro w hSw; (try dsimp only at hSw); go_simp; (try with_reducible rfl))
        (try simp only [Act.put, List.setIfInBounds_toArray, List.set_cons_zero, List.set_cons_succ])
        refine wpAnyH_take (i := 6) (v := .agg (bys X).toArray) (by simp only [List.getElem?_toArray, List.getElem?_cons_succ, List.getElem?_cons_zero]; rfl) (by kernel_rfl) (by kernel_rfl) (by kernel_rfl) (fun _ _ _ h => h) (yieldsIf_load_mid (by rfl) 22 (.tmp 42) rfl g (off + q * 32) rfl (bys X) _ (fun wx hx => HX1.out wx hx.1) Tryd.underlying22 rfl (sizeB X HXX.out)) (by assumption) ?_
        (try simp only [Act.put, List.setIfInBounds_toArray, List.set_cons_zero, List.set_cons_succ])
        refine wpAnyH_take (i := 7) (v := ?_) (by simp only [List.getElem?_toArray, List.getElem?_cons_succ, List.getElem?_cons_zero]; rfl) (by kernel_rfl) (by kernel_rfl) (by kernel_rfl) (fun _ _ _ h => h) (Or.inl ⟨by rfl, ?_⟩) (by assumption) ?_
        rotate_left
        · (intro w hSw; (try dsimp only at hSw); go_simp; (try with_reducible rfl))
        (try simp only [Act.put, List.setIfInBounds_toArray, List.set_cons_zero, List.set_cons_succ])
        refine wpAnyH_take (i := 8) (v := ?_) (by simp only [List.getElem?_toArray, List.getElem?_cons_succ, List.getElem?_cons_zero]; rfl) (by kernel_rfl) (by kernel_rfl) (by kernel_rfl) (fun _ _ _ h => h) (Or.inl ⟨by rfl, ?_⟩) (by assumption) ?_
        rotate_left
        · (intro w hSw; (try dsimp only at hSw); go_simp; (try with_reducible rfl))
        (try simp only [Act.put, List.setIfInBounds_toArray, List.set_cons_zero, List.set_cons_succ])
        refine wpAnyH_take (i := 9) (v := .int .i64 (q : Int)) (by simp only [List.getElem?_toArray, List.getElem?_cons_succ, List.getElem?_cons_zero]; rfl) (by kernel_rfl) (by kernel_rfl) (by kernel_rfl) (fun _ _ _ h => h) (Or.inl ⟨by rfl, ?_⟩) (by assumption) ?_
        · (intro w hSw; (try dsimp only at hSw); go_simp; (try simp [hw2]))
        (try simp only [Act.put, List.setIfInBounds_toArray, List.set_cons_zero, List.set_cons_succ])
        refine wpAnyH_take (i := 10) (v := ?_) (by simp only [List.getElem?_toArray, List.getElem?_cons_succ, List.getElem?_cons_zero]; rfl) (by kernel_rfl) (by kernel_rfl) (by kernel_rfl) (fun _ _ _ h => h) (Or.inl ⟨by rfl, ?_⟩) (by assumption) ?_
        rotate_left
        · (intro w hSw; (try dsimp only at hSw); go_simp; (try with_reducible rfl))
        (try simp only [Act.put, List.setIfInBounds_toArray, List.set_cons_zero, List.set_cons_succ])
        refine wpAnyH_take (i := 11) (v := .agg (bys X).toArray) (by simp only [List.getElem?_toArray, List.getElem?_cons_succ, List.getElem?_cons_zero]; rfl) (by kernel_rfl) (by kernel_rfl) (by kernel_rfl) (fun _ _ _ h => h) (yieldsIf_load_mid (by rfl) 22 (.tmp 47) rfl g (off + q * 32) rfl (bys X) _ (fun wx hx => HX1.out wx hx.1) Tryd.underlying22 rfl (sizeB X HXX.out)) (by assumption) ?_
        (try simp only [Act.put, List.setIfInBounds_toArray, List.set_cons_zero, List.set_cons_succ])
        refine wpAnyH_ready (rs := [12]) (by kernel_rfl) (by simp) ?_
        refine AllReadyH.cons (by simp only [List.getElem?_toArray, List.getElem?_cons_succ, List.getElem?_cons_zero]; rfl) (fun K hK => ?_) AllReadyH.nil
        go_simp
        refine (refpair_any TB HTB.out X X HXX.out HXX.out _).mono ?_
        rintro ee w2 ⟨rfl, hb2⟩
        have hB2 : Below w.heap.size w w2 := hHeld.1.trans (hb2.mono hHeld.1.size)
        have hb2' : Below wr.heap.size wr w2 := ⟨hb2.os, hb2.tape, hb2.output, hb2.size, hb2.block⟩
        have ho2 : w2.ownsRow (w.heap.size + 1) 22 32 u5 j (flatH (ups hs j)) := ownN_below ho hb2' (fun k hk => (ho.lt k hk).2)
        have kt2 := kt.below hb2' kt.lt
        have HD := Lib.hid (pr_is X X)
        generalize pr X X = D at *
        refine hK.out _ _ ?_ (fun hHeld => ?_)
        · exact ⟨hB2, kt2.range⟩
        clear hK K
        (try simp only [Act.put, List.setIfInBounds_toArray, List.set_cons_zero, List.set_cons_succ])
        obtain ⟨v3, w3, hrun, ho3, hg3, _⟩ := app_b32 w2 (w.heap.size + 1) u5 j (ups hs j) ho2 D HD.out (by omega) (by have := hB2.size; have := kt2.lt; omega)
        have hB3 : Below w.heap.size w w3 := hB2.grown hg3 hB2.size (fun k hk => by have := (ho2.lt k hk).1; omega)
        have kt3 : Blk w3 w.heap.size 47 (us TB).toArray := (hg3.block _ kt2.lt (fun e => by have := (ho2.lt _ e.symm).1; omega)).trans kt2
        refine wpAnyH_ready (rs := [13]) (by kernel_rfl) (by simp) ?_
        refine AllReadyH.cons (by simp only [List.getElem?_toArray, List.getElem?_cons_succ, List.getElem?_cons_zero]; rfl) (fun K hK => ?_) AllReadyH.nil
        refine (if_pos rfl).mpr (wp_buildSlice_run 42 1 _ rfl (lit_b32 w2 D HD.out _ (by first | rfl | (simp; done) | (simp; rfl))) ?_)
        refine hK.out _ _ ?_ (fun hHeld => ?_)
        · exact ⟨hB2.alloc hB2.size _, (kt2.alloc _).range⟩
        clear hK K
        (try simp only [Act.put, List.setIfInBounds_toArray, List.set_cons_zero, List.set_cons_succ])
        refine wpAnyH_ready (rs := [14]) (by kernel_rfl) (by simp) ?_
        refine AllReadyH.cons (by simp only [List.getElem?_toArray, List.getElem?_cons_succ, List.getElem?_cons_zero]; rfl) (fun K hK => ?_) AllReadyH.nil
        refine operwp_append_run rfl (.tmp 37) (.tmp 50) 42 rfl rfl rfl hrun ?_
        refine hK.out _ _ ?_ (fun hHeld => ?_)
        · exact ⟨hB3, kt3.range⟩
        clear hK K
        (try simp only [Act.put, List.setIfInBounds_toArray, List.set_cons_zero, List.set_cons_succ])
        refine wpAnyH_take (i := 15) (v := ?_) (by simp only [List.getElem?_toArray, List.getElem?_cons_succ, List.getElem?_cons_zero]; rfl) (by kernel_rfl) (by kernel_rfl) (by kernel_rfl) (fun _ _ _ h => h) (Or.inl ⟨by rfl, ?_⟩) (by assumption) ?_
        rotate_left
        · (intro w hSw; (try dsimp only at hSw); go_simp; (try with_reducible rfl))
        (try simp only [Act.put, List.setIfInBounds_toArray, List.set_cons_zero, List.set_cons_succ])
        refine wpAnyH_done (by kernel_rfl) ?_ _
        refine NoPanic.normal ?_
        rw [← HP.out] at ho3
        have HO3 := Lib.hid ho3
        have HK3 := Lib.hid kt3
        clear hHeld ho3 ho2 hg3 hrun hb2 hB2 ho hb kt kt2 kt3 hb2' hw2 hw3
        go_wp2_with fail
        go_roundg (m - (j + 1))
        case measure => have := HK.out; omega
        case rel => exact ⟨j + 1, rfl, by omega, by go_num, HO3.out, HK3.out, hB3⟩
    · have hdec : decide (2 * (j : Int) < (n : Int)) = false := by have := HM.out; simp; omega
      have hnq : ¬ 2 * (j : Int) < (n : Int) := by have := HM.out; omega
      have hnq' : ¬ 2 * j < n := by have := HM.out; omega
      have hjm : j = m := by omega
      subst hjm
      go_wp2_with fail
      go_ret
      exact ⟨_, rfl, ho, hb⟩
end Go.Proofs.YtkokbpifjpmhlaaDoor
