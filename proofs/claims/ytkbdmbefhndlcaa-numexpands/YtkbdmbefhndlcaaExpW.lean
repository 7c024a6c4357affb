/- The walk of NumExpands. -/
import Derived.Test.YtkbdmbefhndlcaaCompW
import Derived.Deep.QuietTactic
import Derived.BigQuiet
import Derived.Deep.RegionWith
import Derived.Deep.RegionHeld3
import Derived.IntWalk
namespace Go.Proofs.Ytkbdmbefhndlcaa
set_option linter.unusedSimpArgs false
set_option linter.unusedVariables false
open Go.RowKit

theorem little_quiet (A : Option Addr) (n c : Nat) (bs : List Nat) (w : World) (B : Nat) (hr : Rd w B A n (bys bs)) (hb : ∀ c ∈ bs, c < 256) (hn : n ≤ 1000000000) (k : Nat) :
    Calls Try.prog 15 #[.slice A n c] (w.drewN k) fun e w'' => e = .returned (.int .u64 (M.lv bs (min n 8) : Int)) ∧ ∃ m, w'' = w.drewN m :=
  (little_any A n c bs (w.drewN k) B (hr.drewN k) hb hn).mono fun _ _ ⟨he, hm⟩ => ⟨he, k, hm.symm⟩

set_option maxHeartbeats 1000000 in
set_option maxRecDepth 100000 in
theorem exps_long (A : Option Addr) (n c : Nat) (w : World) (h300 : (300 : Int) < n) :
    Calls Try.prog 6 #[.slice A n c] w fun e w' => e = .returned (.bool true) ∧ Below w.heap.size w w' := by
  go_enter Try.func6, Try.ntmps6
  go_wp2_with fail
  refine (compact300 _).mono ?_
  rintro e w1 ⟨A1, c1, rfl, hcv, hb1⟩
  go_wp2_with fail
  go_ret
  exact ⟨rfl, hb1⟩

set_option maxHeartbeats 1000000 in
set_option maxRecDepth 100000 in
theorem exps_none (A : Option Addr) (c : Nat) (w : World) (hcm : (c : Int) ≤ 9223372036854775807) :
    Calls Try.prog 6 #[.slice A 0 c] w fun e w' => e = .returned (.bool true) ∧ Below w.heap.size w w' := by
  have f1 : M.xe [] = 8 := by decide
  have f2 : M.xk [] = 0 := by decide
  have f3 : M.xnum [] = 0 := by decide
  go_enter Try.func6, Try.ntmps6
  go_wp2_with fail
  refine (compact300 _).mono ?_
  rintro e w1 ⟨A1, c1, rfl, hcv, hb1⟩
  go_wp2_with fail
  refine (expand_any A 0 c [] w1 0 Rd.nil (by simp) (by omega) (by omega) hcm).mono ?_
  rintro e w2 ⟨rfl, rfl⟩
  rw [f1, f2, f3]
  go_wp2
  go_ret
  exact ⟨rfl, hb1⟩

set_option maxHeartbeats 1000000 in
set_option maxRecDepth 100000 in
theorem exps_small (A : Option Addr) (n c : Nat) (bs : List Nat) (w : World) (hr : Rd w w.heap.size A n (bys bs)) (hb : ∀ c ∈ bs, c < 256) (hlen : bs.length = n) (h300 : (n : Int) ≤ 300) (hc : n ≤ c) (hcm : (c : Int) ≤ 9223372036854775807) (hn0 : 0 < n) (hb0 : bs.getD 0 0 < 253) :
    Calls Try.prog 6 #[.slice A n c] w fun e w' => e = .returned (.bool true) ∧ Below w.heap.size w w' := by
  have hd : decide (300 < (n : Int)) = false := by simp; omega
  have hn2 : (0 : Int) < (n : Int) := by omega
  obtain ⟨g, off, u, rfl, hgB, hu, hcell0⟩ := hr.at_ (k := 0) (by omega)
  rw [bys_get bs 0 (by rw [hlen]; omega)] at hu
  injection hu with hu
  subst hu
  rw [Nat.add_zero] at hcell0
  have hs : M.xs (bs.getD 0 0) = 0 := by unfold M.xs; rw [if_neg (by omega), if_neg (by omega), if_neg (by omega)]
  have hxn : M.xn bs = bs.getD 0 0 := by unfold M.xn; rw [hs, if_pos rfl]
  have e1 : M.xe bs = 0 := by unfold M.xe; rw [hs, if_neg (by omega), if_neg (fun h => h.1 rfl)]
  have e2 : M.xk bs = 1 := by unfold M.xk; rw [if_pos e1, hs]
  have e3 : M.xnum bs = bs.getD 0 0 := by unfold M.xnum; rw [if_pos e1, hxn]
  have hput : M.compB (bs.getD 0 0) = bs.take 1 := by
    have : M.compB (bs.getD 0 0) = [bs.getD 0 0] := by unfold M.compB M.sg M.cs; rw [if_pos hb0, if_pos hb0]; rfl
    rw [this]
    cases bs with
    | nil => simp at hlen; omega
    | cons x l => rfl
  have HE := Lib.hid e1
  have HK := Lib.hid e2
  have HN := Lib.hid e3
  have HPUT := Lib.hid hput
  have HL := Lib.hid hlen
  clear e1 e2 e3 hs hxn hput hlen
  generalize bs.getD 0 0 = gn at *
  have q1 : decide ((253 : Int) ≤ (gn : Int)) = false := by simp; omega
  have q2 : (gn : Int) < 253 := by omega
  have hgn := Lib.hid (show (gn : Int) ≤ 18446744073709551615 by omega)
  go_enter Try.func6, Try.ntmps6
  go_wp2_with fail
  refine (compact300 _).mono ?_
  rintro e w1 ⟨A1, c1, rfl, hcv, hb1⟩
  have hr1 := hr.below hb1
  have hcell : w1.cell? ⟨g, off, none⟩ = some (.int .u8 (gn : Int)) := by rw [hb1.cell hgB]; exact hcell0
  clear hcell0
  have hgw : g < w1.heap.size := Nat.lt_of_lt_of_le hgB hb1.size
  have hcA : ∀ o, (w1.alloc o).cell? ⟨g, off, none⟩ = some (.int .u8 (gn : Int)) := fun o => by rw [World.cell?_alloc_past _ _ _ hgw]; exact hcell
  have hcB : ∀ o o', ((w1.alloc o).alloc o').cell? ⟨g, off, none⟩ = some (.int .u8 (gn : Int)) := fun o o' => by rw [World.cell?_alloc_past _ _ _ (by simp; omega)]; exact hcA o
  go_wp2_with fail
  clear hcv
  refine (expand_any _ n c bs w1 _ hr1 hb (by omega) hc hcm).mono ?_
  rintro e w2 ⟨rfl, rfl⟩
  rw [HE.out, HK.out, HN.out]
  have rb0 : Rd w1 w.heap.size (some ⟨g, off, none⟩) 1 (bys (bs.take 1)) := by rw [bys_take]; exact hr1.take 1 (by omega)
  rw [← HPUT.out] at rb0
  have hc1 : (1 : Int) ≤ (c : Int) := by omega
  have hn1 : decide ((n : Int) < 1) = false := by simp; omega
  have hn3 : (1 : Int) ≤ (n : Int) := by omega
  go_wp2
  have rbk : Rd w1.drew w.heap.size (some ⟨g, off, none⟩) 1 (bys (M.compB gn)) := rb0.drew
  have hbs : Below w.heap.size w w1.drew := hb1.drew
  have hc0 := conv_of c rbk
  generalize hst2 : strB (M.compB gn) = st at *
  have Hst := Lib.hid hst2
  clear hst2 rb0 hr hb hr1 h300 hd hcell hgB
  refine wp_region_noPanic ?_
  refine wp_region_held_drew (S := fun w' => (convert 23 9 (.slice (some ⟨g, off, none⟩) (1) c)).run Try.prog w' = .ok (.string st) w') (by kernel_rfl) (hc0) (fun hHeld => ?_)
  refine wpAnyH_take (i := 0) (v := ?_) (by simp only [List.getElem?_toArray, List.getElem?_cons_succ, List.getElem?_cons_zero]; rfl) (by kernel_rfl) (by kernel_rfl) (by kernel_rfl) (fun _ _ _ h => h) (Or.inl ⟨by rfl, ?_⟩) (by assumption) ?_
  rotate_left
  · (intro w hSw; (try dsimp only at hSw); go_simp; (try with_reducible rfl))
  (try simp only [Act.put, List.setIfInBounds_toArray, List.set_cons_zero, List.set_cons_succ])
  refine wpAnyH_take (i := 1) (v := ?_) (by simp only [List.getElem?_toArray, List.getElem?_cons_succ, List.getElem?_cons_zero]; rfl) (by kernel_rfl) (by kernel_rfl) (by kernel_rfl) (fun _ _ _ h => h) (Or.inl ⟨by rfl, ?_⟩) (by assumption) ?_
  rotate_left
  · (intro w hSw; (try dsimp only at hSw); go_simp; (try with_reducible rfl))
  (try simp only [Act.put, List.setIfInBounds_toArray, List.set_cons_zero, List.set_cons_succ])
  refine wpAnyH_take (i := 2) (v := ?_) (by simp only [List.getElem?_toArray, List.getElem?_cons_succ, List.getElem?_cons_zero]; rfl) (by kernel_rfl) (by kernel_rfl) (by kernel_rfl) (fun _ _ _ h => h) (Or.inl ⟨by rfl, ?_⟩) (by assumption) ?_
  rotate_left
  · (intro w hSw; (try dsimp only at hSw); go_simp; (try with_reducible rfl))
  (try simp only [Act.put, List.setIfInBounds_toArray, List.set_cons_zero, List.set_cons_succ])
  refine wpAnyH_take (i := 3) (v := ?_) (by simp only [List.getElem?_toArray, List.getElem?_cons_succ, List.getElem?_cons_zero]; rfl) (by kernel_rfl) (by kernel_rfl) (by kernel_rfl) (fun _ _ _ h => h) (Or.inl ⟨by rfl, ?_⟩) (by assumption) ?_
  rotate_left
  · (intro w hSw; (try dsimp only at hSw); go_simp; (try with_reducible rfl))
  (try simp only [Act.put, List.setIfInBounds_toArray, List.set_cons_zero, List.set_cons_succ])
  refine wpAnyH_take (i := 4) (v := ?_) (by simp only [List.getElem?_toArray, List.getElem?_cons_succ, List.getElem?_cons_zero]; rfl) (by kernel_rfl) (by kernel_rfl) (by kernel_rfl) (fun _ _ _ h => h) (Or.inl ⟨by rfl, ?_⟩) (by assumption) ?_
  rotate_left
  · (intro w hSw; (try dsimp only at hSw); go_simp; (try with_reducible rfl))
  (try simp only [Act.put, List.setIfInBounds_toArray, List.set_cons_zero, List.set_cons_succ])
  refine wpAnyH_take (i := 7) (v := ?_) (by simp only [List.getElem?_toArray, List.getElem?_cons_succ, List.getElem?_cons_zero]; rfl) (by kernel_rfl) (by kernel_rfl) (by kernel_rfl) (fun _ _ _ h => h) (Or.inl ⟨by rfl, ?_⟩) (by assumption) ?_
  rotate_left
  · (intro w hSw; (try dsimp only at hSw); go_simp; (try with_reducible rfl))
  (try simp only [Act.put, List.setIfInBounds_toArray, List.set_cons_zero, List.set_cons_succ])
  refine wpAnyH_take (i := 8) (v := ?_) (by simp only [List.getElem?_toArray, List.getElem?_cons_succ, List.getElem?_cons_zero]; rfl) (by kernel_rfl) (by kernel_rfl) (by kernel_rfl) (fun _ _ _ h => h) (Or.inl ⟨by rfl, ?_⟩) (by assumption) ?_
  rotate_left
  · (intro w hSw; (try dsimp only at hSw); go_simp; (try with_reducible rfl))
  (try simp only [Act.put, List.setIfInBounds_toArray, List.set_cons_zero, List.set_cons_succ])
  refine wpAnyH_take (i := 9) (v := ?_) (by simp only [List.getElem?_toArray, List.getElem?_cons_succ, List.getElem?_cons_zero]; rfl) (by kernel_rfl) (by kernel_rfl) (by kernel_rfl) (fun _ _ _ h => h) (Or.inl ⟨by rfl, ?_⟩) (by assumption) ?_
  rotate_left
  · (intro w hSw; (try dsimp only at hSw); go_simp; (try with_reducible rfl))
  (try simp only [Act.put, List.setIfInBounds_toArray, List.set_cons_zero, List.set_cons_succ])
  refine wpAnyH_take (i := 10) (v := ?_) (by simp only [List.getElem?_toArray, List.getElem?_cons_succ, List.getElem?_cons_zero]; rfl) (by kernel_rfl) (by kernel_rfl) (by kernel_rfl) (fun _ _ _ h => h) (Or.inl ⟨by rfl, ?_⟩) (by assumption) ?_
  rotate_left
  · (intro w hSw; (try dsimp only at hSw); go_simp; (try with_reducible rfl))
  (try simp only [Act.put, List.setIfInBounds_toArray, List.set_cons_zero, List.set_cons_succ])
  refine wpAnyH_ready (rs := [5]) (by kernel_rfl) (by simp) ?_
  refine AllReadyH.cons (by simp only [List.getElem?_toArray, List.getElem?_cons_succ, List.getElem?_cons_zero]; rfl) (fun K hK => ?_) AllReadyH.nil
  go_simp
  refine (compact_nil gn hgn.out _).mono ?_
  rintro e w3 ⟨A2, c2, rfl, _, hr2, hb2⟩
  have hq := conv_of c2 hr2
  rw [Hst.out] at hq
  have hq2 := conv_of c (rbk.below (hb2.mono hbs.size))
  rw [Hst.out] at hq2
  clear hr2
  go_wp2_with fail
  refine hK.out _ _ ?_ (fun hHeld => ?_)
  · exact hq2
  clear hK K
  (try simp only [Act.put, List.setIfInBounds_toArray, List.set_cons_zero, List.set_cons_succ])
  refine wpAnyH_ready (rs := [6]) (by kernel_rfl) (by simp) ?_
  refine AllReadyH.cons (by simp only [List.getElem?_toArray, List.getElem?_cons_succ, List.getElem?_cons_zero]; rfl) (fun K hK => ?_) AllReadyH.nil
  go_simp
  skip
  refine hK.out _ _ ?_ (fun hHeld => ?_)
  · exact hq2
  clear hK K
  (try simp only [Act.put, List.setIfInBounds_toArray, List.set_cons_zero, List.set_cons_succ])
  refine wpAnyH_take (i := 11) (v := ?_) (by simp only [List.getElem?_toArray, List.getElem?_cons_succ, List.getElem?_cons_zero]; rfl) (by kernel_rfl) (by kernel_rfl) (by kernel_rfl) (fun _ _ _ h => h) (Or.inl ⟨by rfl, ?_⟩) (by assumption) ?_
  rotate_left
  · (intro w hSw; (try dsimp only at hSw); go_simp; (try with_reducible rfl))
  (try simp only [Act.put, List.setIfInBounds_toArray, List.set_cons_zero, List.set_cons_succ])
  refine wpAnyH_take (i := 12) (v := ?_) (by simp only [List.getElem?_toArray, List.getElem?_cons_succ, List.getElem?_cons_zero]; rfl) (by kernel_rfl) (by kernel_rfl) (by kernel_rfl) (fun _ _ _ h => h) (Or.inl ⟨by rfl, ?_⟩) (by assumption) ?_
  rotate_left
  · (intro w hSw; (try dsimp only at hSw); go_simp; (try with_reducible rfl))
  (try simp only [Act.put, List.setIfInBounds_toArray, List.set_cons_zero, List.set_cons_succ])
  refine wpAnyH_take (i := 13) (v := ?_) (by simp only [List.getElem?_toArray, List.getElem?_cons_succ, List.getElem?_cons_zero]; rfl) (by kernel_rfl) (by kernel_rfl) (by kernel_rfl) (fun _ _ _ h => h) (Or.inl ⟨by rfl, ?_⟩) (by assumption) ?_
  rotate_left
  · (intro w hSw; (try dsimp only at hSw); go_simp; (try with_reducible rfl))
  (try simp only [Act.put, List.setIfInBounds_toArray, List.set_cons_zero, List.set_cons_succ])
  refine wpAnyH_done (by kernel_rfl) ?_ _
  refine NoPanic.normal ?_
  go_wp2
  go_ret
  exact ⟨by simp, hbs.trans (hb2.mono hbs.size)⟩

set_option maxHeartbeats 1000000 in
set_option maxRecDepth 100000 in
theorem exps_short_2 (A : Option Addr) (n c : Nat) (bs : List Nat) (w : World) (hr : Rd w w.heap.size A n (bys bs)) (hb : ∀ c ∈ bs, c < 256) (hlen : bs.length = n) (h300 : (n : Int) ≤ 300) (hc : n ≤ c) (hcm : (c : Int) ≤ 9223372036854775807) (hn0 : 0 < n) (hb0 : bs.getD 0 0 = 253) (hsh : n < 1 + 2) :
    Calls Try.prog 6 #[.slice A n c] w fun e w' => e = .returned (.bool true) ∧ Below w.heap.size w w' := by
  have hd : decide (300 < (n : Int)) = false := by simp; omega
  have hn2 : (0 : Int) < (n : Int) := by omega
  obtain ⟨g, off, u, rfl, hgB, hu, hcell0⟩ := hr.at_ (k := 0) (by omega)
  rw [bys_get bs 0 (by rw [hlen]; omega)] at hu
  injection hu with hu
  subst hu
  rw [Nat.add_zero] at hcell0
  have hs : M.xs (bs.getD 0 0) = 2 := by unfold M.xs; rw [if_pos hb0]
  have hx : M.xl (bs.getD 0 0) = 253 := by unfold M.xl; rw [if_pos hb0]
  have e1 : M.xe bs = 8 := by unfold M.xe; rw [hs, if_pos (by omega)]
  have e2 : M.xk bs = 0 := by unfold M.xk; rw [if_neg (by rw [e1]; decide)]
  have e3 : M.xnum bs = 0 := by unfold M.xnum; rw [if_neg (by rw [e1]; decide)]
  have HE := Lib.hid e1
  have HK := Lib.hid e2
  have HN := Lib.hid e3
  rw [hb0] at hcell0
  clear e1 e2 e3 hs hx hb0 hlen
  have hn3 : (n : Int) < 3 := by omega
  go_enter Try.func6, Try.ntmps6
  go_wp2_with fail
  refine (compact300 _).mono ?_
  rintro e w1 ⟨A1, c1, rfl, hcv, hb1⟩
  have hr1 := hr.below hb1
  have hcell : w1.cell? ⟨g, off, none⟩ = some (.int .u8 (253 : Int)) := by rw [hb1.cell hgB]; exact hcell0
  clear hcell0
  have hgw : g < w1.heap.size := Nat.lt_of_lt_of_le hgB hb1.size
  have hcA : ∀ o, (w1.alloc o).cell? ⟨g, off, none⟩ = some (.int .u8 (253 : Int)) := fun o => by rw [World.cell?_alloc_past _ _ _ hgw]; exact hcell
  have hcB : ∀ o o', ((w1.alloc o).alloc o').cell? ⟨g, off, none⟩ = some (.int .u8 (253 : Int)) := fun o o' => by rw [World.cell?_alloc_past _ _ _ (by simp; omega)]; exact hcA o
  go_wp2_with fail
  clear hcv
  refine (expand_any _ n c bs w1 _ hr1 hb (by omega) hc hcm).mono ?_
  rintro e w2 ⟨rfl, rfl⟩
  rw [HE.out, HK.out, HN.out]
  go_wp2
  go_ret
  exact ⟨rfl, hb1.alloc hb1.size _⟩

set_option maxHeartbeats 1000000 in
set_option maxRecDepth 100000 in
theorem exps_form_2 (A : Option Addr) (n c : Nat) (bs : List Nat) (w : World) (hr : Rd w w.heap.size A n (bys bs)) (hb : ∀ c ∈ bs, c < 256) (hlen : bs.length = n) (h300 : (n : Int) ≤ 300) (hc : n ≤ c) (hcm : (c : Int) ≤ 9223372036854775807) (hn0 : 0 < n) (hb0 : bs.getD 0 0 = 253) (hsh : 1 + 2 ≤ n) (hq : M.lv (bs.drop 1) 2 < 253) :
    Calls Try.prog 6 #[.slice A n c] w fun e w' => e = .returned (.bool true) ∧ Below w.heap.size w w' := by
  have hd : decide (300 < (n : Int)) = false := by simp; omega
  have hn2 : (0 : Int) < (n : Int) := by omega
  obtain ⟨g, off, u, rfl, hgB, hu, hcell0⟩ := hr.at_ (k := 0) (by omega)
  rw [bys_get bs 0 (by rw [hlen]; omega)] at hu
  injection hu with hu
  subst hu
  rw [Nat.add_zero] at hcell0
  have hs : M.xs (bs.getD 0 0) = 2 := by unfold M.xs; rw [if_pos hb0]
  have hx : M.xl (bs.getD 0 0) = 253 := by unfold M.xl; rw [if_pos hb0]
  have hxn : M.xn bs = M.lv (bs.drop 1) 2 := by unfold M.xn; rw [hs, if_neg (by decide)]
  have e1 : M.xe bs = 2 := by unfold M.xe; rw [hs, hx, hxn, if_neg (by omega), if_pos ⟨by decide, hq⟩]
  have e2 : M.xk bs = 0 := by unfold M.xk; rw [if_neg (by rw [e1]; decide)]
  have e3 : M.xnum bs = 0 := by unfold M.xnum; rw [if_neg (by rw [e1]; decide)]
  have HE := Lib.hid e1
  have HK := Lib.hid e2
  have HN := Lib.hid e3
  rw [hb0] at hcell0
  have hlv : M.lv ((bs.drop 1).take 2) (min 2 8) = M.lv (bs.drop 1) 2 := by
    rw [show min 2 8 = 2 by decide, M.lv_of _ (M.lv (bs.drop 1) 2) 2 (fun j hj => by
      rw [M.lv_digit (bs.drop 1) (fun y hy => hb y (List.mem_of_mem_drop hy)) 2 j hj]
      rw [List.getD_eq_getElem?_getD, List.getD_eq_getElem?_getD, List.getElem?_take, if_pos hj])]
    exact Nat.mod_eq_of_lt (M.lv_lt _ (fun y hy => hb y (List.mem_of_mem_drop hy)) _)
  have HLV := Lib.hid hlv
  have hqi : ((M.lv (bs.drop 1) 2 : Nat) : Int) < 253 := by omega
  have HL := Lib.hid hlen
  clear e1 e2 e3 hs hx hb0 hlen hxn hlv hq
  have hn3 : decide ((n : Int) < 3) = false := by simp; omega
  have hn4 : (3 : Int) ≤ (n : Int) := by omega
  have hc3 : (3 : Int) ≤ (c : Int) := by omega
  go_enter Try.func6, Try.ntmps6
  go_wp2_with fail
  refine (compact300 _).mono ?_
  rintro e w1 ⟨A1, c1, rfl, hcv, hb1⟩
  have hr1 := hr.below hb1
  have hcell : w1.cell? ⟨g, off, none⟩ = some (.int .u8 (253 : Int)) := by rw [hb1.cell hgB]; exact hcell0
  clear hcell0
  have hgw : g < w1.heap.size := Nat.lt_of_lt_of_le hgB hb1.size
  have hcA : ∀ o, (w1.alloc o).cell? ⟨g, off, none⟩ = some (.int .u8 (253 : Int)) := fun o => by rw [World.cell?_alloc_past _ _ _ hgw]; exact hcell
  have hcB : ∀ o o', ((w1.alloc o).alloc o').cell? ⟨g, off, none⟩ = some (.int .u8 (253 : Int)) := fun o o' => by rw [World.cell?_alloc_past _ _ _ (by simp; omega)]; exact hcA o
  go_wp2_with fail
  clear hcv
  refine (expand_any _ n c bs w1 _ hr1 hb (by omega) hc hcm).mono ?_
  rintro e w2 ⟨rfl, rfl⟩
  rw [HE.out, HK.out, HN.out]
  have hdr0 := hr1.drop 1 c (by omega) hc
  rw [if_neg (by omega), ← bys_drop] at hdr0
  have hdr1 := hdr0.take 2 (by omega)
  rw [← bys_take] at hdr1
  have hdr : Rd w1 w.heap.size (some ⟨g, off + 1, none⟩) 2 (bys ((bs.drop 1).take 2)) := by simpa [Addr.add_lit] using hdr1
  clear hdr0 hdr1
  have hbt : ∀ y ∈ (bs.drop 1).take 2, y < 256 := fun y hy => hb y (List.mem_of_mem_drop (List.mem_of_mem_take hy))
  generalize M.lv (bs.drop 1) 2 = lv at *
  generalize bs.drop 1 = ds at *
  have hws := hb1.size
  go_wp2
  have hrd2 : Rd ((w1.alloc (.cells #[.int .i64 3, .int .i64 5, .int .i64 9] 3)).alloc (.cells #[.int .u64 253, .int .u64 65536, .int .u64 4294967296] 22)) w.heap.size (some ⟨g, off + 1, none⟩) 2 (bys (ds.take 2)) := (hdr.alloc hws _).alloc (by simp; omega) _
  have hcD := hcB (.cells #[.int .i64 3, .int .i64 5, .int .i64 9] 3) (.cells #[.int .u64 253, .int .u64 65536, .int .u64 4294967296] 22)
  have hcE : ((w1.alloc (.cells #[.int .i64 3, .int .i64 5, .int .i64 9] 3)).alloc (.cells #[.int .u64 253, .int .u64 65536, .int .u64 4294967296] 22)).cell? ⟨w1.heap.size + 1, 0, none⟩ = some (.int .u64 253) := by
    rw [World.cell?_alloc_at _ _ _ _ (by simp)]; rfl
  have hfin : Below w.heap.size w ((w1.alloc (.cells #[.int .i64 3, .int .i64 5, .int .i64 9] 3)).alloc (.cells #[.int .u64 253, .int .u64 65536, .int .u64 4294967296] 22)) := (hb1.alloc hb1.size _).alloc (by simp; omega) _
  clear hcA hcB hcell hr hr1 hdr hb h300 hd
  generalize ((w1.alloc (.cells #[.int .i64 3, .int .i64 5, .int .i64 9] 3)).alloc (.cells #[.int .u64 253, .int .u64 65536, .int .u64 4294967296] 22)) = W2 at *
  go_quiet ((go_at_call 15; exact little_quiet _ _ _ _ W2 _ hrd2 hbt (by omega) _))
  go_wp2
  go_ret
  refine ⟨?_, ⟨hfin.os, hfin.tape, hfin.output, hfin.size, hfin.block⟩⟩
  have e := HLV.out
  rw [show min 2 8 = 2 from rfl] at e
  show Ending.returned (.bool (decide (((M.lv (List.take 2 ds) 2 : Nat) : Int) < 253))) = _
  rw [e, decide_eq_true hqi]

set_option maxHeartbeats 1000000 in
set_option maxRecDepth 100000 in
theorem exps_ok_2 (A : Option Addr) (n c : Nat) (bs : List Nat) (w : World) (hr : Rd w w.heap.size A n (bys bs)) (hb : ∀ c ∈ bs, c < 256) (hlen : bs.length = n) (h300 : (n : Int) ≤ 300) (hc : n ≤ c) (hcm : (c : Int) ≤ 9223372036854775807) (hn0 : 0 < n) (hb0 : bs.getD 0 0 = 253) (hsh : 1 + 2 ≤ n) (hq : ¬ M.lv (bs.drop 1) 2 < 253) :
    Calls Try.prog 6 #[.slice A n c] w fun e w' => e = .returned (.bool true) ∧ Below w.heap.size w w' := by
  have hd : decide (300 < (n : Int)) = false := by simp; omega
  have hn2 : (0 : Int) < (n : Int) := by omega
  obtain ⟨g, off, u, rfl, hgB, hu, hcell0⟩ := hr.at_ (k := 0) (by omega)
  rw [bys_get bs 0 (by rw [hlen]; omega)] at hu
  injection hu with hu
  subst hu
  rw [Nat.add_zero] at hcell0
  have hs : M.xs (bs.getD 0 0) = 2 := by unfold M.xs; rw [if_pos hb0]
  have hx : M.xl (bs.getD 0 0) = 253 := by unfold M.xl; rw [if_pos hb0]
  have hxn : M.xn bs = M.lv (bs.drop 1) 2 := by unfold M.xn; rw [hs, if_neg (by decide)]
  have e1 : M.xe bs = 0 := by unfold M.xe; rw [hs, hx, hxn, if_neg (by omega), if_neg (fun h => hq h.2)]
  have e2 : M.xk bs = 1 + 2 := by unfold M.xk; rw [if_pos e1, hs]
  have e3 : M.xnum bs = M.lv (bs.drop 1) 2 := by unfold M.xnum; rw [if_pos e1, hxn]
  have HE := Lib.hid e1
  have HK := Lib.hid e2
  have HN := Lib.hid e3
  rw [hb0] at hcell0
  have hd1 : ∀ y ∈ bs.drop 1, y < 256 := fun y hy => hb y (List.mem_of_mem_drop hy)
  have hlt := M.lv_lt (bs.drop 1) hd1 2
  have hput : M.compB (M.lv (bs.drop 1) 2) = bs.take (1 + 2) := by
    have hle := M.leB_lv (bs.drop 1) hd1 2 (by rw [List.length_drop]; omega)
    generalize M.lv (bs.drop 1) 2 = q at *
    have hlt' : q < 65536 := by simpa using hlt
    have c1 : M.cs q = 2 := by unfold M.cs; rw [if_neg (by omega), if_pos (by omega)]
    have c2 : M.sg q = 253 := by unfold M.sg; rw [if_neg (by omega), if_pos (by omega)]
    unfold M.compB
    rw [c1, c2, hle]
    cases bs with
    | nil => simp at hlen; omega
    | cons x l =>
      have hx0 : x = 253 := hb0
      subst hx0
      rfl
  have hgn : Hid ((M.lv (bs.drop 1) 2 : Nat) ≤ (18446744073709551615 : Int)) := Lib.hid (by
    have : M.lv (bs.drop 1) 2 < 65536 := by simpa using hlt
    omega)
  have HPUT := Lib.hid hput
  clear e1 e2 e3 hs hx hb0 hlen hxn hlt hput hq hd1
  have hn3 : decide ((n : Int) < 3) = false := by simp; omega
  have hn4 : (3 : Int) ≤ (n : Int) := by omega
  have hc3 : (3 : Int) ≤ (c : Int) := by omega
  generalize M.lv (bs.drop 1) 2 = gn at *
  go_enter Try.func6, Try.ntmps6
  go_wp2_with fail
  refine (compact300 _).mono ?_
  rintro e w1 ⟨A1, c1, rfl, hcv, hb1⟩
  have hr1 := hr.below hb1
  have hcell : w1.cell? ⟨g, off, none⟩ = some (.int .u8 (253 : Int)) := by rw [hb1.cell hgB]; exact hcell0
  clear hcell0
  have hgw : g < w1.heap.size := Nat.lt_of_lt_of_le hgB hb1.size
  have hcA : ∀ o, (w1.alloc o).cell? ⟨g, off, none⟩ = some (.int .u8 (253 : Int)) := fun o => by rw [World.cell?_alloc_past _ _ _ hgw]; exact hcell
  have hcB : ∀ o o', ((w1.alloc o).alloc o').cell? ⟨g, off, none⟩ = some (.int .u8 (253 : Int)) := fun o o' => by rw [World.cell?_alloc_past _ _ _ (by simp; omega)]; exact hcA o
  go_wp2_with fail
  clear hcv
  refine (expand_any _ n c bs w1 _ hr1 hb (by omega) hc hcm).mono ?_
  rintro e w2 ⟨rfl, rfl⟩
  rw [HE.out, HK.out, HN.out]
  have rb0 : Rd w1 w.heap.size (some ⟨g, off, none⟩) (1 + 2) (bys (bs.take (1 + 2))) := by rw [bys_take]; exact hr1.take (1 + 2) (by omega)
  rw [← HPUT.out] at rb0
  have hws := hb1.size
  go_wp2
  have rbk : Rd ((w1.alloc (.cells #[.int .i64 3, .int .i64 5, .int .i64 9] 3)).drew) w.heap.size (some ⟨g, off, none⟩) 3 (bys (M.compB gn)) := (rb0.alloc hws _).drew
  have hbs : Below w.heap.size w ((w1.alloc (.cells #[.int .i64 3, .int .i64 5, .int .i64 9] 3)).drew) := (hb1.alloc hb1.size _).drew
  have hc0 := conv_of c rbk
  generalize hst2 : strB (M.compB gn) = st at *
  have Hst := Lib.hid hst2
  clear hst2 rb0 hr hb hr1 h300 hd hcell hgB hcA hcB
  generalize (w1.alloc (.cells #[.int .i64 3, .int .i64 5, .int .i64 9] 3)) = W2 at *
  refine wp_region_noPanic ?_
  refine wp_region_held_drew (S := fun w' => (convert 23 9 (.slice (some ⟨g, off, none⟩) (3) c)).run Try.prog w' = .ok (.string st) w') (by kernel_rfl) (hc0) (fun hHeld => ?_)
  refine wpAnyH_take (i := 0) (v := ?_) (by simp only [List.getElem?_toArray, List.getElem?_cons_succ, List.getElem?_cons_zero]; rfl) (by kernel_rfl) (by kernel_rfl) (by kernel_rfl) (fun _ _ _ h => h) (Or.inl ⟨by rfl, ?_⟩) (by assumption) ?_
  rotate_left
  · (intro w hSw; (try dsimp only at hSw); go_simp; (try with_reducible rfl))
  (try simp only [Act.put, List.setIfInBounds_toArray, List.set_cons_zero, List.set_cons_succ])
  refine wpAnyH_take (i := 1) (v := ?_) (by simp only [List.getElem?_toArray, List.getElem?_cons_succ, List.getElem?_cons_zero]; rfl) (by kernel_rfl) (by kernel_rfl) (by kernel_rfl) (fun _ _ _ h => h) (Or.inl ⟨by rfl, ?_⟩) (by assumption) ?_
  rotate_left
  · (intro w hSw; (try dsimp only at hSw); go_simp; (try with_reducible rfl))
  (try simp only [Act.put, List.setIfInBounds_toArray, List.set_cons_zero, List.set_cons_succ])
  refine wpAnyH_take (i := 2) (v := ?_) (by simp only [List.getElem?_toArray, List.getElem?_cons_succ, List.getElem?_cons_zero]; rfl) (by kernel_rfl) (by kernel_rfl) (by kernel_rfl) (fun _ _ _ h => h) (Or.inl ⟨by rfl, ?_⟩) (by assumption) ?_
  rotate_left
  · (intro w hSw; (try dsimp only at hSw); go_simp; (try with_reducible rfl))
  (try simp only [Act.put, List.setIfInBounds_toArray, List.set_cons_zero, List.set_cons_succ])
  refine wpAnyH_take (i := 3) (v := ?_) (by simp only [List.getElem?_toArray, List.getElem?_cons_succ, List.getElem?_cons_zero]; rfl) (by kernel_rfl) (by kernel_rfl) (by kernel_rfl) (fun _ _ _ h => h) (Or.inl ⟨by rfl, ?_⟩) (by assumption) ?_
  rotate_left
  · (intro w hSw; (try dsimp only at hSw); go_simp; (try with_reducible rfl))
  (try simp only [Act.put, List.setIfInBounds_toArray, List.set_cons_zero, List.set_cons_succ])
  refine wpAnyH_take (i := 4) (v := ?_) (by simp only [List.getElem?_toArray, List.getElem?_cons_succ, List.getElem?_cons_zero]; rfl) (by kernel_rfl) (by kernel_rfl) (by kernel_rfl) (fun _ _ _ h => h) (Or.inl ⟨by rfl, ?_⟩) (by assumption) ?_
  rotate_left
  · (intro w hSw; (try dsimp only at hSw); go_simp; (try with_reducible rfl))
  (try simp only [Act.put, List.setIfInBounds_toArray, List.set_cons_zero, List.set_cons_succ])
  refine wpAnyH_take (i := 7) (v := ?_) (by simp only [List.getElem?_toArray, List.getElem?_cons_succ, List.getElem?_cons_zero]; rfl) (by kernel_rfl) (by kernel_rfl) (by kernel_rfl) (fun _ _ _ h => h) (Or.inl ⟨by rfl, ?_⟩) (by assumption) ?_
  rotate_left
  · (intro w hSw; (try dsimp only at hSw); go_simp; (try with_reducible rfl))
  (try simp only [Act.put, List.setIfInBounds_toArray, List.set_cons_zero, List.set_cons_succ])
  refine wpAnyH_take (i := 8) (v := ?_) (by simp only [List.getElem?_toArray, List.getElem?_cons_succ, List.getElem?_cons_zero]; rfl) (by kernel_rfl) (by kernel_rfl) (by kernel_rfl) (fun _ _ _ h => h) (Or.inl ⟨by rfl, ?_⟩) (by assumption) ?_
  rotate_left
  · (intro w hSw; (try dsimp only at hSw); go_simp; (try with_reducible rfl))
  (try simp only [Act.put, List.setIfInBounds_toArray, List.set_cons_zero, List.set_cons_succ])
  refine wpAnyH_take (i := 9) (v := ?_) (by simp only [List.getElem?_toArray, List.getElem?_cons_succ, List.getElem?_cons_zero]; rfl) (by kernel_rfl) (by kernel_rfl) (by kernel_rfl) (fun _ _ _ h => h) (Or.inl ⟨by rfl, ?_⟩) (by assumption) ?_
  rotate_left
  · (intro w hSw; (try dsimp only at hSw); go_simp; (try with_reducible rfl))
  (try simp only [Act.put, List.setIfInBounds_toArray, List.set_cons_zero, List.set_cons_succ])
  refine wpAnyH_take (i := 10) (v := ?_) (by simp only [List.getElem?_toArray, List.getElem?_cons_succ, List.getElem?_cons_zero]; rfl) (by kernel_rfl) (by kernel_rfl) (by kernel_rfl) (fun _ _ _ h => h) (Or.inl ⟨by rfl, ?_⟩) (by assumption) ?_
  rotate_left
  · (intro w hSw; (try dsimp only at hSw); go_simp; (try with_reducible rfl))
  (try simp only [Act.put, List.setIfInBounds_toArray, List.set_cons_zero, List.set_cons_succ])
  refine wpAnyH_ready (rs := [5]) (by kernel_rfl) (by simp) ?_
  refine AllReadyH.cons (by simp only [List.getElem?_toArray, List.getElem?_cons_succ, List.getElem?_cons_zero]; rfl) (fun K hK => ?_) AllReadyH.nil
  go_simp
  refine (compact_nil gn hgn.out _).mono ?_
  rintro e w3 ⟨A2, c2, rfl, _, hr2, hb2⟩
  have hq := conv_of c2 hr2
  rw [Hst.out] at hq
  have hq2 := conv_of c (rbk.below (hb2.mono hbs.size))
  rw [Hst.out] at hq2
  clear hr2
  go_wp2_with fail
  refine hK.out _ _ ?_ (fun hHeld => ?_)
  · exact hq2
  clear hK K
  (try simp only [Act.put, List.setIfInBounds_toArray, List.set_cons_zero, List.set_cons_succ])
  refine wpAnyH_ready (rs := [6]) (by kernel_rfl) (by simp) ?_
  refine AllReadyH.cons (by simp only [List.getElem?_toArray, List.getElem?_cons_succ, List.getElem?_cons_zero]; rfl) (fun K hK => ?_) AllReadyH.nil
  go_simp
  skip
  refine hK.out _ _ ?_ (fun hHeld => ?_)
  · exact hq2
  clear hK K
  (try simp only [Act.put, List.setIfInBounds_toArray, List.set_cons_zero, List.set_cons_succ])
  refine wpAnyH_take (i := 11) (v := ?_) (by simp only [List.getElem?_toArray, List.getElem?_cons_succ, List.getElem?_cons_zero]; rfl) (by kernel_rfl) (by kernel_rfl) (by kernel_rfl) (fun _ _ _ h => h) (Or.inl ⟨by rfl, ?_⟩) (by assumption) ?_
  rotate_left
  · (intro w hSw; (try dsimp only at hSw); go_simp; (try with_reducible rfl))
  (try simp only [Act.put, List.setIfInBounds_toArray, List.set_cons_zero, List.set_cons_succ])
  refine wpAnyH_take (i := 12) (v := ?_) (by simp only [List.getElem?_toArray, List.getElem?_cons_succ, List.getElem?_cons_zero]; rfl) (by kernel_rfl) (by kernel_rfl) (by kernel_rfl) (fun _ _ _ h => h) (Or.inl ⟨by rfl, ?_⟩) (by assumption) ?_
  rotate_left
  · (intro w hSw; (try dsimp only at hSw); go_simp; (try with_reducible rfl))
  (try simp only [Act.put, List.setIfInBounds_toArray, List.set_cons_zero, List.set_cons_succ])
  refine wpAnyH_take (i := 13) (v := ?_) (by simp only [List.getElem?_toArray, List.getElem?_cons_succ, List.getElem?_cons_zero]; rfl) (by kernel_rfl) (by kernel_rfl) (by kernel_rfl) (fun _ _ _ h => h) (Or.inl ⟨by rfl, ?_⟩) (by assumption) ?_
  rotate_left
  · (intro w hSw; (try dsimp only at hSw); go_simp; (try with_reducible rfl))
  (try simp only [Act.put, List.setIfInBounds_toArray, List.set_cons_zero, List.set_cons_succ])
  refine wpAnyH_done (by kernel_rfl) ?_ _
  refine NoPanic.normal ?_
  go_wp2
  go_ret
  exact ⟨by simp, hbs.trans (hb2.mono hbs.size)⟩

theorem exps_sign_2 (A : Option Addr) (n c : Nat) (bs : List Nat) (w : World) (hr : Rd w w.heap.size A n (bys bs)) (hb : ∀ c ∈ bs, c < 256) (hlen : bs.length = n) (h300 : (n : Int) ≤ 300) (hc : n ≤ c) (hcm : (c : Int) ≤ 9223372036854775807) (hn0 : 0 < n) (hb0 : bs.getD 0 0 = 253) :
    Calls Try.prog 6 #[.slice A n c] w fun e w' => e = .returned (.bool true) ∧ Below w.heap.size w w' := by
  by_cases h1 : n < 1 + 2
  · exact exps_short_2 A n c bs w hr hb hlen h300 hc hcm hn0 hb0 h1
  · by_cases h2 : M.lv (bs.drop 1) 2 < 253
    · exact exps_form_2 A n c bs w hr hb hlen h300 hc hcm hn0 hb0 (by omega) h2
    · exact exps_ok_2 A n c bs w hr hb hlen h300 hc hcm hn0 hb0 (by omega) h2

set_option maxHeartbeats 1000000 in
set_option maxRecDepth 100000 in
theorem exps_short_4 (A : Option Addr) (n c : Nat) (bs : List Nat) (w : World) (hr : Rd w w.heap.size A n (bys bs)) (hb : ∀ c ∈ bs, c < 256) (hlen : bs.length = n) (h300 : (n : Int) ≤ 300) (hc : n ≤ c) (hcm : (c : Int) ≤ 9223372036854775807) (hn0 : 0 < n) (hb0 : bs.getD 0 0 = 254) (hsh : n < 1 + 4) :
    Calls Try.prog 6 #[.slice A n c] w fun e w' => e = .returned (.bool true) ∧ Below w.heap.size w w' := by
  have hd : decide (300 < (n : Int)) = false := by simp; omega
  have hn2 : (0 : Int) < (n : Int) := by omega
  obtain ⟨g, off, u, rfl, hgB, hu, hcell0⟩ := hr.at_ (k := 0) (by omega)
  rw [bys_get bs 0 (by rw [hlen]; omega)] at hu
  injection hu with hu
  subst hu
  rw [Nat.add_zero] at hcell0
  have hs : M.xs (bs.getD 0 0) = 4 := by unfold M.xs; rw [if_neg (by omega), if_pos hb0]
  have hx : M.xl (bs.getD 0 0) = 65536 := by unfold M.xl; rw [if_neg (by omega), if_pos hb0]
  have e1 : M.xe bs = 8 := by unfold M.xe; rw [hs, if_pos (by omega)]
  have e2 : M.xk bs = 0 := by unfold M.xk; rw [if_neg (by rw [e1]; decide)]
  have e3 : M.xnum bs = 0 := by unfold M.xnum; rw [if_neg (by rw [e1]; decide)]
  have HE := Lib.hid e1
  have HK := Lib.hid e2
  have HN := Lib.hid e3
  rw [hb0] at hcell0
  clear e1 e2 e3 hs hx hb0 hlen
  have hn3 : (n : Int) < 5 := by omega
  go_enter Try.func6, Try.ntmps6
  go_wp2_with fail
  refine (compact300 _).mono ?_
  rintro e w1 ⟨A1, c1, rfl, hcv, hb1⟩
  have hr1 := hr.below hb1
  have hcell : w1.cell? ⟨g, off, none⟩ = some (.int .u8 (254 : Int)) := by rw [hb1.cell hgB]; exact hcell0
  clear hcell0
  have hgw : g < w1.heap.size := Nat.lt_of_lt_of_le hgB hb1.size
  have hcA : ∀ o, (w1.alloc o).cell? ⟨g, off, none⟩ = some (.int .u8 (254 : Int)) := fun o => by rw [World.cell?_alloc_past _ _ _ hgw]; exact hcell
  have hcB : ∀ o o', ((w1.alloc o).alloc o').cell? ⟨g, off, none⟩ = some (.int .u8 (254 : Int)) := fun o o' => by rw [World.cell?_alloc_past _ _ _ (by simp; omega)]; exact hcA o
  go_wp2_with fail
  clear hcv
  refine (expand_any _ n c bs w1 _ hr1 hb (by omega) hc hcm).mono ?_
  rintro e w2 ⟨rfl, rfl⟩
  rw [HE.out, HK.out, HN.out]
  go_wp2
  go_ret
  exact ⟨rfl, hb1.alloc hb1.size _⟩

set_option maxHeartbeats 1000000 in
set_option maxRecDepth 100000 in
theorem exps_form_4 (A : Option Addr) (n c : Nat) (bs : List Nat) (w : World) (hr : Rd w w.heap.size A n (bys bs)) (hb : ∀ c ∈ bs, c < 256) (hlen : bs.length = n) (h300 : (n : Int) ≤ 300) (hc : n ≤ c) (hcm : (c : Int) ≤ 9223372036854775807) (hn0 : 0 < n) (hb0 : bs.getD 0 0 = 254) (hsh : 1 + 4 ≤ n) (hq : M.lv (bs.drop 1) 4 < 65536) :
    Calls Try.prog 6 #[.slice A n c] w fun e w' => e = .returned (.bool true) ∧ Below w.heap.size w w' := by
  have hd : decide (300 < (n : Int)) = false := by simp; omega
  have hn2 : (0 : Int) < (n : Int) := by omega
  obtain ⟨g, off, u, rfl, hgB, hu, hcell0⟩ := hr.at_ (k := 0) (by omega)
  rw [bys_get bs 0 (by rw [hlen]; omega)] at hu
  injection hu with hu
  subst hu
  rw [Nat.add_zero] at hcell0
  have hs : M.xs (bs.getD 0 0) = 4 := by unfold M.xs; rw [if_neg (by omega), if_pos hb0]
  have hx : M.xl (bs.getD 0 0) = 65536 := by unfold M.xl; rw [if_neg (by omega), if_pos hb0]
  have hxn : M.xn bs = M.lv (bs.drop 1) 4 := by unfold M.xn; rw [hs, if_neg (by decide)]
  have e1 : M.xe bs = 2 := by unfold M.xe; rw [hs, hx, hxn, if_neg (by omega), if_pos ⟨by decide, hq⟩]
  have e2 : M.xk bs = 0 := by unfold M.xk; rw [if_neg (by rw [e1]; decide)]
  have e3 : M.xnum bs = 0 := by unfold M.xnum; rw [if_neg (by rw [e1]; decide)]
  have HE := Lib.hid e1
  have HK := Lib.hid e2
  have HN := Lib.hid e3
  rw [hb0] at hcell0
  have hlv : M.lv ((bs.drop 1).take 4) (min 4 8) = M.lv (bs.drop 1) 4 := by
    rw [show min 4 8 = 4 by decide, M.lv_of _ (M.lv (bs.drop 1) 4) 4 (fun j hj => by
      rw [M.lv_digit (bs.drop 1) (fun y hy => hb y (List.mem_of_mem_drop hy)) 4 j hj]
      rw [List.getD_eq_getElem?_getD, List.getD_eq_getElem?_getD, List.getElem?_take, if_pos hj])]
    exact Nat.mod_eq_of_lt (M.lv_lt _ (fun y hy => hb y (List.mem_of_mem_drop hy)) _)
  have HLV := Lib.hid hlv
  have hqi : ((M.lv (bs.drop 1) 4 : Nat) : Int) < 65536 := by omega
  have HL := Lib.hid hlen
  clear e1 e2 e3 hs hx hb0 hlen hxn hlv hq
  have hn3 : decide ((n : Int) < 5) = false := by simp; omega
  have hn4 : (5 : Int) ≤ (n : Int) := by omega
  have hc3 : (5 : Int) ≤ (c : Int) := by omega
  go_enter Try.func6, Try.ntmps6
  go_wp2_with fail
  refine (compact300 _).mono ?_
  rintro e w1 ⟨A1, c1, rfl, hcv, hb1⟩
  have hr1 := hr.below hb1
  have hcell : w1.cell? ⟨g, off, none⟩ = some (.int .u8 (254 : Int)) := by rw [hb1.cell hgB]; exact hcell0
  clear hcell0
  have hgw : g < w1.heap.size := Nat.lt_of_lt_of_le hgB hb1.size
  have hcA : ∀ o, (w1.alloc o).cell? ⟨g, off, none⟩ = some (.int .u8 (254 : Int)) := fun o => by rw [World.cell?_alloc_past _ _ _ hgw]; exact hcell
  have hcB : ∀ o o', ((w1.alloc o).alloc o').cell? ⟨g, off, none⟩ = some (.int .u8 (254 : Int)) := fun o o' => by rw [World.cell?_alloc_past _ _ _ (by simp; omega)]; exact hcA o
  go_wp2_with fail
  clear hcv
  refine (expand_any _ n c bs w1 _ hr1 hb (by omega) hc hcm).mono ?_
  rintro e w2 ⟨rfl, rfl⟩
  rw [HE.out, HK.out, HN.out]
  have hdr0 := hr1.drop 1 c (by omega) hc
  rw [if_neg (by omega), ← bys_drop] at hdr0
  have hdr1 := hdr0.take 4 (by omega)
  rw [← bys_take] at hdr1
  have hdr : Rd w1 w.heap.size (some ⟨g, off + 1, none⟩) 4 (bys ((bs.drop 1).take 4)) := by simpa [Addr.add_lit] using hdr1
  clear hdr0 hdr1
  have hbt : ∀ y ∈ (bs.drop 1).take 4, y < 256 := fun y hy => hb y (List.mem_of_mem_drop (List.mem_of_mem_take hy))
  generalize M.lv (bs.drop 1) 4 = lv at *
  generalize bs.drop 1 = ds at *
  have hws := hb1.size
  go_wp2
  have hrd2 : Rd ((w1.alloc (.cells #[.int .i64 3, .int .i64 5, .int .i64 9] 3)).alloc (.cells #[.int .u64 253, .int .u64 65536, .int .u64 4294967296] 22)) w.heap.size (some ⟨g, off + 1, none⟩) 4 (bys (ds.take 4)) := (hdr.alloc hws _).alloc (by simp; omega) _
  have hcD := hcB (.cells #[.int .i64 3, .int .i64 5, .int .i64 9] 3) (.cells #[.int .u64 253, .int .u64 65536, .int .u64 4294967296] 22)
  have hcE : ((w1.alloc (.cells #[.int .i64 3, .int .i64 5, .int .i64 9] 3)).alloc (.cells #[.int .u64 253, .int .u64 65536, .int .u64 4294967296] 22)).cell? ⟨w1.heap.size + 1, 1, none⟩ = some (.int .u64 65536) := by
    rw [World.cell?_alloc_at _ _ _ _ (by simp)]; rfl
  have hfin : Below w.heap.size w ((w1.alloc (.cells #[.int .i64 3, .int .i64 5, .int .i64 9] 3)).alloc (.cells #[.int .u64 253, .int .u64 65536, .int .u64 4294967296] 22)) := (hb1.alloc hb1.size _).alloc (by simp; omega) _
  clear hcA hcB hcell hr hr1 hdr hb h300 hd
  generalize ((w1.alloc (.cells #[.int .i64 3, .int .i64 5, .int .i64 9] 3)).alloc (.cells #[.int .u64 253, .int .u64 65536, .int .u64 4294967296] 22)) = W2 at *
  go_quiet ((go_at_call 15; exact little_quiet _ _ _ _ W2 _ hrd2 hbt (by omega) _))
  go_wp2
  go_ret
  refine ⟨?_, ⟨hfin.os, hfin.tape, hfin.output, hfin.size, hfin.block⟩⟩
  have e := HLV.out
  rw [show min 4 8 = 4 from rfl] at e
  show Ending.returned (.bool (decide (((M.lv (List.take 4 ds) 4 : Nat) : Int) < 65536))) = _
  rw [e, decide_eq_true hqi]

set_option maxHeartbeats 1000000 in
set_option maxRecDepth 100000 in
theorem exps_ok_4 (A : Option Addr) (n c : Nat) (bs : List Nat) (w : World) (hr : Rd w w.heap.size A n (bys bs)) (hb : ∀ c ∈ bs, c < 256) (hlen : bs.length = n) (h300 : (n : Int) ≤ 300) (hc : n ≤ c) (hcm : (c : Int) ≤ 9223372036854775807) (hn0 : 0 < n) (hb0 : bs.getD 0 0 = 254) (hsh : 1 + 4 ≤ n) (hq : ¬ M.lv (bs.drop 1) 4 < 65536) :
    Calls Try.prog 6 #[.slice A n c] w fun e w' => e = .returned (.bool true) ∧ Below w.heap.size w w' := by
  have hd : decide (300 < (n : Int)) = false := by simp; omega
  have hn2 : (0 : Int) < (n : Int) := by omega
  obtain ⟨g, off, u, rfl, hgB, hu, hcell0⟩ := hr.at_ (k := 0) (by omega)
  rw [bys_get bs 0 (by rw [hlen]; omega)] at hu
  injection hu with hu
  subst hu
  rw [Nat.add_zero] at hcell0
  have hs : M.xs (bs.getD 0 0) = 4 := by unfold M.xs; rw [if_neg (by omega), if_pos hb0]
  have hx : M.xl (bs.getD 0 0) = 65536 := by unfold M.xl; rw [if_neg (by omega), if_pos hb0]
  have hxn : M.xn bs = M.lv (bs.drop 1) 4 := by unfold M.xn; rw [hs, if_neg (by decide)]
  have e1 : M.xe bs = 0 := by unfold M.xe; rw [hs, hx, hxn, if_neg (by omega), if_neg (fun h => hq h.2)]
  have e2 : M.xk bs = 1 + 4 := by unfold M.xk; rw [if_pos e1, hs]
  have e3 : M.xnum bs = M.lv (bs.drop 1) 4 := by unfold M.xnum; rw [if_pos e1, hxn]
  have HE := Lib.hid e1
  have HK := Lib.hid e2
  have HN := Lib.hid e3
  rw [hb0] at hcell0
  have hd1 : ∀ y ∈ bs.drop 1, y < 256 := fun y hy => hb y (List.mem_of_mem_drop hy)
  have hlt := M.lv_lt (bs.drop 1) hd1 4
  have hput : M.compB (M.lv (bs.drop 1) 4) = bs.take (1 + 4) := by
    have hle := M.leB_lv (bs.drop 1) hd1 4 (by rw [List.length_drop]; omega)
    generalize M.lv (bs.drop 1) 4 = q at *
    have hlt' : q < 4294967296 := by simpa using hlt
    have c1 : M.cs q = 4 := by unfold M.cs; rw [if_neg (by omega), if_neg (by omega), if_pos (by omega)]
    have c2 : M.sg q = 254 := by unfold M.sg; rw [if_neg (by omega), if_neg (by omega), if_pos (by omega)]
    unfold M.compB
    rw [c1, c2, hle]
    cases bs with
    | nil => simp at hlen; omega
    | cons x l =>
      have hx0 : x = 254 := hb0
      subst hx0
      rfl
  have hgn : Hid ((M.lv (bs.drop 1) 4 : Nat) ≤ (18446744073709551615 : Int)) := Lib.hid (by
    have : M.lv (bs.drop 1) 4 < 4294967296 := by simpa using hlt
    omega)
  have HPUT := Lib.hid hput
  clear e1 e2 e3 hs hx hb0 hlen hxn hlt hput hq hd1
  have hn3 : decide ((n : Int) < 5) = false := by simp; omega
  have hn4 : (5 : Int) ≤ (n : Int) := by omega
  have hc3 : (5 : Int) ≤ (c : Int) := by omega
  generalize M.lv (bs.drop 1) 4 = gn at *
  go_enter Try.func6, Try.ntmps6
  go_wp2_with fail
  refine (compact300 _).mono ?_
  rintro e w1 ⟨A1, c1, rfl, hcv, hb1⟩
  have hr1 := hr.below hb1
  have hcell : w1.cell? ⟨g, off, none⟩ = some (.int .u8 (254 : Int)) := by rw [hb1.cell hgB]; exact hcell0
  clear hcell0
  have hgw : g < w1.heap.size := Nat.lt_of_lt_of_le hgB hb1.size
  have hcA : ∀ o, (w1.alloc o).cell? ⟨g, off, none⟩ = some (.int .u8 (254 : Int)) := fun o => by rw [World.cell?_alloc_past _ _ _ hgw]; exact hcell
  have hcB : ∀ o o', ((w1.alloc o).alloc o').cell? ⟨g, off, none⟩ = some (.int .u8 (254 : Int)) := fun o o' => by rw [World.cell?_alloc_past _ _ _ (by simp; omega)]; exact hcA o
  go_wp2_with fail
  clear hcv
  refine (expand_any _ n c bs w1 _ hr1 hb (by omega) hc hcm).mono ?_
  rintro e w2 ⟨rfl, rfl⟩
  rw [HE.out, HK.out, HN.out]
  have rb0 : Rd w1 w.heap.size (some ⟨g, off, none⟩) (1 + 4) (bys (bs.take (1 + 4))) := by rw [bys_take]; exact hr1.take (1 + 4) (by omega)
  rw [← HPUT.out] at rb0
  have hws := hb1.size
  go_wp2
  have rbk : Rd ((w1.alloc (.cells #[.int .i64 3, .int .i64 5, .int .i64 9] 3)).drew) w.heap.size (some ⟨g, off, none⟩) 5 (bys (M.compB gn)) := (rb0.alloc hws _).drew
  have hbs : Below w.heap.size w ((w1.alloc (.cells #[.int .i64 3, .int .i64 5, .int .i64 9] 3)).drew) := (hb1.alloc hb1.size _).drew
  have hc0 := conv_of c rbk
  generalize hst2 : strB (M.compB gn) = st at *
  have Hst := Lib.hid hst2
  clear hst2 rb0 hr hb hr1 h300 hd hcell hgB hcA hcB
  generalize (w1.alloc (.cells #[.int .i64 3, .int .i64 5, .int .i64 9] 3)) = W2 at *
  refine wp_region_noPanic ?_
  refine wp_region_held_drew (S := fun w' => (convert 23 9 (.slice (some ⟨g, off, none⟩) (5) c)).run Try.prog w' = .ok (.string st) w') (by kernel_rfl) (hc0) (fun hHeld => ?_)
  refine wpAnyH_take (i := 0) (v := ?_) (by simp only [List.getElem?_toArray, List.getElem?_cons_succ, List.getElem?_cons_zero]; rfl) (by kernel_rfl) (by kernel_rfl) (by kernel_rfl) (fun _ _ _ h => h) (Or.inl ⟨by rfl, ?_⟩) (by assumption) ?_
  rotate_left
  · (intro w hSw; (try dsimp only at hSw); go_simp; (try with_reducible rfl))
  (try simp only [Act.put, List.setIfInBounds_toArray, List.set_cons_zero, List.set_cons_succ])
  refine wpAnyH_take (i := 1) (v := ?_) (by simp only [List.getElem?_toArray, List.getElem?_cons_succ, List.getElem?_cons_zero]; rfl) (by kernel_rfl) (by kernel_rfl) (by kernel_rfl) (fun _ _ _ h => h) (Or.inl ⟨by rfl, ?_⟩) (by assumption) ?_
  rotate_left
  · (intro w hSw; (try dsimp only at hSw); go_simp; (try with_reducible rfl))
  (try simp only [Act.put, List.setIfInBounds_toArray, List.set_cons_zero, List.set_cons_succ])
  refine wpAnyH_take (i := 2) (v := ?_) (by simp only [List.getElem?_toArray, List.getElem?_cons_succ, List.getElem?_cons_zero]; rfl) (by kernel_rfl) (by kernel_rfl) (by kernel_rfl) (fun _ _ _ h => h) (Or.inl ⟨by rfl, ?_⟩) (by assumption) ?_
  rotate_left
  · (intro w hSw; (try dsimp only at hSw); go_simp; (try with_reducible rfl))
  (try simp only [Act.put, List.setIfInBounds_toArray, List.set_cons_zero, List.set_cons_succ])
  refine wpAnyH_take (i := 3) (v := ?_) (by simp only [List.getElem?_toArray, List.getElem?_cons_succ, List.getElem?_cons_zero]; rfl) (by kernel_rfl) (by kernel_rfl) (by kernel_rfl) (fun _ _ _ h => h) (Or.inl ⟨by rfl, ?_⟩) (by assumption) ?_
  rotate_left
  · (intro w hSw; (try dsimp only at hSw); go_simp; (try with_reducible rfl))
  (try simp only [Act.put, List.setIfInBounds_toArray, List.set_cons_zero, List.set_cons_succ])
  refine wpAnyH_take (i := 4) (v := ?_) (by simp only [List.getElem?_toArray, List.getElem?_cons_succ, List.getElem?_cons_zero]; rfl) (by kernel_rfl) (by kernel_rfl) (by kernel_rfl) (fun _ _ _ h => h) (Or.inl ⟨by rfl, ?_⟩) (by assumption) ?_
  rotate_left
  · (intro w hSw; (try dsimp only at hSw); go_simp; (try with_reducible rfl))
  (try simp only [Act.put, List.setIfInBounds_toArray, List.set_cons_zero, List.set_cons_succ])
  refine wpAnyH_take (i := 7) (v := ?_) (by simp only [List.getElem?_toArray, List.getElem?_cons_succ, List.getElem?_cons_zero]; rfl) (by kernel_rfl) (by kernel_rfl) (by kernel_rfl) (fun _ _ _ h => h) (Or.inl ⟨by rfl, ?_⟩) (by assumption) ?_
  rotate_left
  · (intro w hSw; (try dsimp only at hSw); go_simp; (try with_reducible rfl))
  (try simp only [Act.put, List.setIfInBounds_toArray, List.set_cons_zero, List.set_cons_succ])
  refine wpAnyH_take (i := 8) (v := ?_) (by simp only [List.getElem?_toArray, List.getElem?_cons_succ, List.getElem?_cons_zero]; rfl) (by kernel_rfl) (by kernel_rfl) (by kernel_rfl) (fun _ _ _ h => h) (Or.inl ⟨by rfl, ?_⟩) (by assumption) ?_
  rotate_left
  · (intro w hSw; (try dsimp only at hSw); go_simp; (try with_reducible rfl))
  (try simp only [Act.put, List.setIfInBounds_toArray, List.set_cons_zero, List.set_cons_succ])
  refine wpAnyH_take (i := 9) (v := ?_) (by simp only [List.getElem?_toArray, List.getElem?_cons_succ, List.getElem?_cons_zero]; rfl) (by kernel_rfl) (by kernel_rfl) (by kernel_rfl) (fun _ _ _ h => h) (Or.inl ⟨by rfl, ?_⟩) (by assumption) ?_
  rotate_left
  · (intro w hSw; (try dsimp only at hSw); go_simp; (try with_reducible rfl))
  (try simp only [Act.put, List.setIfInBounds_toArray, List.set_cons_zero, List.set_cons_succ])
  refine wpAnyH_take (i := 10) (v := ?_) (by simp only [List.getElem?_toArray, List.getElem?_cons_succ, List.getElem?_cons_zero]; rfl) (by kernel_rfl) (by kernel_rfl) (by kernel_rfl) (fun _ _ _ h => h) (Or.inl ⟨by rfl, ?_⟩) (by assumption) ?_
  rotate_left
  · (intro w hSw; (try dsimp only at hSw); go_simp; (try with_reducible rfl))
  (try simp only [Act.put, List.setIfInBounds_toArray, List.set_cons_zero, List.set_cons_succ])
  refine wpAnyH_ready (rs := [5]) (by kernel_rfl) (by simp) ?_
  refine AllReadyH.cons (by simp only [List.getElem?_toArray, List.getElem?_cons_succ, List.getElem?_cons_zero]; rfl) (fun K hK => ?_) AllReadyH.nil
  go_simp
  refine (compact_nil gn hgn.out _).mono ?_
  rintro e w3 ⟨A2, c2, rfl, _, hr2, hb2⟩
  have hq := conv_of c2 hr2
  rw [Hst.out] at hq
  have hq2 := conv_of c (rbk.below (hb2.mono hbs.size))
  rw [Hst.out] at hq2
  clear hr2
  go_wp2_with fail
  refine hK.out _ _ ?_ (fun hHeld => ?_)
  · exact hq2
  clear hK K
  (try simp only [Act.put, List.setIfInBounds_toArray, List.set_cons_zero, List.set_cons_succ])
  refine wpAnyH_ready (rs := [6]) (by kernel_rfl) (by simp) ?_
  refine AllReadyH.cons (by simp only [List.getElem?_toArray, List.getElem?_cons_succ, List.getElem?_cons_zero]; rfl) (fun K hK => ?_) AllReadyH.nil
  go_simp
  skip
  refine hK.out _ _ ?_ (fun hHeld => ?_)
  · exact hq2
  clear hK K
  (try simp only [Act.put, List.setIfInBounds_toArray, List.set_cons_zero, List.set_cons_succ])
  refine wpAnyH_take (i := 11) (v := ?_) (by simp only [List.getElem?_toArray, List.getElem?_cons_succ, List.getElem?_cons_zero]; rfl) (by kernel_rfl) (by kernel_rfl) (by kernel_rfl) (fun _ _ _ h => h) (Or.inl ⟨by rfl, ?_⟩) (by assumption) ?_
  rotate_left
  · (intro w hSw; (try dsimp only at hSw); go_simp; (try with_reducible rfl))
  (try simp only [Act.put, List.setIfInBounds_toArray, List.set_cons_zero, List.set_cons_succ])
  refine wpAnyH_take (i := 12) (v := ?_) (by simp only [List.getElem?_toArray, List.getElem?_cons_succ, List.getElem?_cons_zero]; rfl) (by kernel_rfl) (by kernel_rfl) (by kernel_rfl) (fun _ _ _ h => h) (Or.inl ⟨by rfl, ?_⟩) (by assumption) ?_
  rotate_left
  · (intro w hSw; (try dsimp only at hSw); go_simp; (try with_reducible rfl))
  (try simp only [Act.put, List.setIfInBounds_toArray, List.set_cons_zero, List.set_cons_succ])
  refine wpAnyH_take (i := 13) (v := ?_) (by simp only [List.getElem?_toArray, List.getElem?_cons_succ, List.getElem?_cons_zero]; rfl) (by kernel_rfl) (by kernel_rfl) (by kernel_rfl) (fun _ _ _ h => h) (Or.inl ⟨by rfl, ?_⟩) (by assumption) ?_
  rotate_left
  · (intro w hSw; (try dsimp only at hSw); go_simp; (try with_reducible rfl))
  (try simp only [Act.put, List.setIfInBounds_toArray, List.set_cons_zero, List.set_cons_succ])
  refine wpAnyH_done (by kernel_rfl) ?_ _
  refine NoPanic.normal ?_
  go_wp2
  go_ret
  exact ⟨by simp, hbs.trans (hb2.mono hbs.size)⟩

theorem exps_sign_4 (A : Option Addr) (n c : Nat) (bs : List Nat) (w : World) (hr : Rd w w.heap.size A n (bys bs)) (hb : ∀ c ∈ bs, c < 256) (hlen : bs.length = n) (h300 : (n : Int) ≤ 300) (hc : n ≤ c) (hcm : (c : Int) ≤ 9223372036854775807) (hn0 : 0 < n) (hb0 : bs.getD 0 0 = 254) :
    Calls Try.prog 6 #[.slice A n c] w fun e w' => e = .returned (.bool true) ∧ Below w.heap.size w w' := by
  by_cases h1 : n < 1 + 4
  · exact exps_short_4 A n c bs w hr hb hlen h300 hc hcm hn0 hb0 h1
  · by_cases h2 : M.lv (bs.drop 1) 4 < 65536
    · exact exps_form_4 A n c bs w hr hb hlen h300 hc hcm hn0 hb0 (by omega) h2
    · exact exps_ok_4 A n c bs w hr hb hlen h300 hc hcm hn0 hb0 (by omega) h2

set_option maxHeartbeats 1000000 in
set_option maxRecDepth 100000 in
theorem exps_short_8 (A : Option Addr) (n c : Nat) (bs : List Nat) (w : World) (hr : Rd w w.heap.size A n (bys bs)) (hb : ∀ c ∈ bs, c < 256) (hlen : bs.length = n) (h300 : (n : Int) ≤ 300) (hc : n ≤ c) (hcm : (c : Int) ≤ 9223372036854775807) (hn0 : 0 < n) (hb0 : bs.getD 0 0 = 255) (hsh : n < 1 + 8) :
    Calls Try.prog 6 #[.slice A n c] w fun e w' => e = .returned (.bool true) ∧ Below w.heap.size w w' := by
  have hd : decide (300 < (n : Int)) = false := by simp; omega
  have hn2 : (0 : Int) < (n : Int) := by omega
  obtain ⟨g, off, u, rfl, hgB, hu, hcell0⟩ := hr.at_ (k := 0) (by omega)
  rw [bys_get bs 0 (by rw [hlen]; omega)] at hu
  injection hu with hu
  subst hu
  rw [Nat.add_zero] at hcell0
  have hs : M.xs (bs.getD 0 0) = 8 := by unfold M.xs; rw [if_neg (by omega), if_neg (by omega), if_pos hb0]
  have hx : M.xl (bs.getD 0 0) = 4294967296 := by unfold M.xl; rw [if_neg (by omega), if_neg (by omega)]
  have e1 : M.xe bs = 8 := by unfold M.xe; rw [hs, if_pos (by omega)]
  have e2 : M.xk bs = 0 := by unfold M.xk; rw [if_neg (by rw [e1]; decide)]
  have e3 : M.xnum bs = 0 := by unfold M.xnum; rw [if_neg (by rw [e1]; decide)]
  have HE := Lib.hid e1
  have HK := Lib.hid e2
  have HN := Lib.hid e3
  rw [hb0] at hcell0
  clear e1 e2 e3 hs hx hb0 hlen
  have hn3 : (n : Int) < 9 := by omega
  go_enter Try.func6, Try.ntmps6
  go_wp2_with fail
  refine (compact300 _).mono ?_
  rintro e w1 ⟨A1, c1, rfl, hcv, hb1⟩
  have hr1 := hr.below hb1
  have hcell : w1.cell? ⟨g, off, none⟩ = some (.int .u8 (255 : Int)) := by rw [hb1.cell hgB]; exact hcell0
  clear hcell0
  have hgw : g < w1.heap.size := Nat.lt_of_lt_of_le hgB hb1.size
  have hcA : ∀ o, (w1.alloc o).cell? ⟨g, off, none⟩ = some (.int .u8 (255 : Int)) := fun o => by rw [World.cell?_alloc_past _ _ _ hgw]; exact hcell
  have hcB : ∀ o o', ((w1.alloc o).alloc o').cell? ⟨g, off, none⟩ = some (.int .u8 (255 : Int)) := fun o o' => by rw [World.cell?_alloc_past _ _ _ (by simp; omega)]; exact hcA o
  go_wp2_with fail
  clear hcv
  refine (expand_any _ n c bs w1 _ hr1 hb (by omega) hc hcm).mono ?_
  rintro e w2 ⟨rfl, rfl⟩
  rw [HE.out, HK.out, HN.out]
  go_wp2
  go_ret
  exact ⟨rfl, hb1.alloc hb1.size _⟩

set_option maxHeartbeats 1000000 in
set_option maxRecDepth 100000 in
theorem exps_form_8 (A : Option Addr) (n c : Nat) (bs : List Nat) (w : World) (hr : Rd w w.heap.size A n (bys bs)) (hb : ∀ c ∈ bs, c < 256) (hlen : bs.length = n) (h300 : (n : Int) ≤ 300) (hc : n ≤ c) (hcm : (c : Int) ≤ 9223372036854775807) (hn0 : 0 < n) (hb0 : bs.getD 0 0 = 255) (hsh : 1 + 8 ≤ n) (hq : M.lv (bs.drop 1) 8 < 4294967296) :
    Calls Try.prog 6 #[.slice A n c] w fun e w' => e = .returned (.bool true) ∧ Below w.heap.size w w' := by
  have hd : decide (300 < (n : Int)) = false := by simp; omega
  have hn2 : (0 : Int) < (n : Int) := by omega
  obtain ⟨g, off, u, rfl, hgB, hu, hcell0⟩ := hr.at_ (k := 0) (by omega)
  rw [bys_get bs 0 (by rw [hlen]; omega)] at hu
  injection hu with hu
  subst hu
  rw [Nat.add_zero] at hcell0
  have hs : M.xs (bs.getD 0 0) = 8 := by unfold M.xs; rw [if_neg (by omega), if_neg (by omega), if_pos hb0]
  have hx : M.xl (bs.getD 0 0) = 4294967296 := by unfold M.xl; rw [if_neg (by omega), if_neg (by omega)]
  have hxn : M.xn bs = M.lv (bs.drop 1) 8 := by unfold M.xn; rw [hs, if_neg (by decide)]
  have e1 : M.xe bs = 2 := by unfold M.xe; rw [hs, hx, hxn, if_neg (by omega), if_pos ⟨by decide, hq⟩]
  have e2 : M.xk bs = 0 := by unfold M.xk; rw [if_neg (by rw [e1]; decide)]
  have e3 : M.xnum bs = 0 := by unfold M.xnum; rw [if_neg (by rw [e1]; decide)]
  have HE := Lib.hid e1
  have HK := Lib.hid e2
  have HN := Lib.hid e3
  rw [hb0] at hcell0
  have hlv : M.lv ((bs.drop 1).take 8) (min 8 8) = M.lv (bs.drop 1) 8 := by
    rw [show min 8 8 = 8 by decide, M.lv_of _ (M.lv (bs.drop 1) 8) 8 (fun j hj => by
      rw [M.lv_digit (bs.drop 1) (fun y hy => hb y (List.mem_of_mem_drop hy)) 8 j hj]
      rw [List.getD_eq_getElem?_getD, List.getD_eq_getElem?_getD, List.getElem?_take, if_pos hj])]
    exact Nat.mod_eq_of_lt (M.lv_lt _ (fun y hy => hb y (List.mem_of_mem_drop hy)) _)
  have HLV := Lib.hid hlv
  have hqi : ((M.lv (bs.drop 1) 8 : Nat) : Int) < 4294967296 := by omega
  have HL := Lib.hid hlen
  clear e1 e2 e3 hs hx hb0 hlen hxn hlv hq
  have hn3 : decide ((n : Int) < 9) = false := by simp; omega
  have hn4 : (9 : Int) ≤ (n : Int) := by omega
  have hc3 : (9 : Int) ≤ (c : Int) := by omega
  go_enter Try.func6, Try.ntmps6
  go_wp2_with fail
  refine (compact300 _).mono ?_
  rintro e w1 ⟨A1, c1, rfl, hcv, hb1⟩
  have hr1 := hr.below hb1
  have hcell : w1.cell? ⟨g, off, none⟩ = some (.int .u8 (255 : Int)) := by rw [hb1.cell hgB]; exact hcell0
  clear hcell0
  have hgw : g < w1.heap.size := Nat.lt_of_lt_of_le hgB hb1.size
  have hcA : ∀ o, (w1.alloc o).cell? ⟨g, off, none⟩ = some (.int .u8 (255 : Int)) := fun o => by rw [World.cell?_alloc_past _ _ _ hgw]; exact hcell
  have hcB : ∀ o o', ((w1.alloc o).alloc o').cell? ⟨g, off, none⟩ = some (.int .u8 (255 : Int)) := fun o o' => by rw [World.cell?_alloc_past _ _ _ (by simp; omega)]; exact hcA o
  go_wp2_with fail
  clear hcv
  refine (expand_any _ n c bs w1 _ hr1 hb (by omega) hc hcm).mono ?_
  rintro e w2 ⟨rfl, rfl⟩
  rw [HE.out, HK.out, HN.out]
  have hdr0 := hr1.drop 1 c (by omega) hc
  rw [if_neg (by omega), ← bys_drop] at hdr0
  have hdr1 := hdr0.take 8 (by omega)
  rw [← bys_take] at hdr1
  have hdr : Rd w1 w.heap.size (some ⟨g, off + 1, none⟩) 8 (bys ((bs.drop 1).take 8)) := by simpa [Addr.add_lit] using hdr1
  clear hdr0 hdr1
  have hbt : ∀ y ∈ (bs.drop 1).take 8, y < 256 := fun y hy => hb y (List.mem_of_mem_drop (List.mem_of_mem_take hy))
  generalize M.lv (bs.drop 1) 8 = lv at *
  generalize bs.drop 1 = ds at *
  have hws := hb1.size
  go_wp2
  have hrd2 : Rd ((w1.alloc (.cells #[.int .i64 3, .int .i64 5, .int .i64 9] 3)).alloc (.cells #[.int .u64 253, .int .u64 65536, .int .u64 4294967296] 22)) w.heap.size (some ⟨g, off + 1, none⟩) 8 (bys (ds.take 8)) := (hdr.alloc hws _).alloc (by simp; omega) _
  have hcD := hcB (.cells #[.int .i64 3, .int .i64 5, .int .i64 9] 3) (.cells #[.int .u64 253, .int .u64 65536, .int .u64 4294967296] 22)
  have hcE : ((w1.alloc (.cells #[.int .i64 3, .int .i64 5, .int .i64 9] 3)).alloc (.cells #[.int .u64 253, .int .u64 65536, .int .u64 4294967296] 22)).cell? ⟨w1.heap.size + 1, 2, none⟩ = some (.int .u64 4294967296) := by
    rw [World.cell?_alloc_at _ _ _ _ (by simp)]; rfl
  have hfin : Below w.heap.size w ((w1.alloc (.cells #[.int .i64 3, .int .i64 5, .int .i64 9] 3)).alloc (.cells #[.int .u64 253, .int .u64 65536, .int .u64 4294967296] 22)) := (hb1.alloc hb1.size _).alloc (by simp; omega) _
  clear hcA hcB hcell hr hr1 hdr hb h300 hd
  generalize ((w1.alloc (.cells #[.int .i64 3, .int .i64 5, .int .i64 9] 3)).alloc (.cells #[.int .u64 253, .int .u64 65536, .int .u64 4294967296] 22)) = W2 at *
  go_quiet ((go_at_call 15; exact little_quiet _ _ _ _ W2 _ hrd2 hbt (by omega) _))
  go_wp2
  go_ret
  refine ⟨?_, ⟨hfin.os, hfin.tape, hfin.output, hfin.size, hfin.block⟩⟩
  have e := HLV.out
  rw [show min 8 8 = 8 from rfl] at e
  show Ending.returned (.bool (decide (((M.lv (List.take 8 ds) 8 : Nat) : Int) < 4294967296))) = _
  rw [e, decide_eq_true hqi]

set_option maxHeartbeats 1000000 in
set_option maxRecDepth 100000 in
theorem exps_ok_8 (A : Option Addr) (n c : Nat) (bs : List Nat) (w : World) (hr : Rd w w.heap.size A n (bys bs)) (hb : ∀ c ∈ bs, c < 256) (hlen : bs.length = n) (h300 : (n : Int) ≤ 300) (hc : n ≤ c) (hcm : (c : Int) ≤ 9223372036854775807) (hn0 : 0 < n) (hb0 : bs.getD 0 0 = 255) (hsh : 1 + 8 ≤ n) (hq : ¬ M.lv (bs.drop 1) 8 < 4294967296) :
    Calls Try.prog 6 #[.slice A n c] w fun e w' => e = .returned (.bool true) ∧ Below w.heap.size w w' := by
  have hd : decide (300 < (n : Int)) = false := by simp; omega
  have hn2 : (0 : Int) < (n : Int) := by omega
  obtain ⟨g, off, u, rfl, hgB, hu, hcell0⟩ := hr.at_ (k := 0) (by omega)
  rw [bys_get bs 0 (by rw [hlen]; omega)] at hu
  injection hu with hu
  subst hu
  rw [Nat.add_zero] at hcell0
  have hs : M.xs (bs.getD 0 0) = 8 := by unfold M.xs; rw [if_neg (by omega), if_neg (by omega), if_pos hb0]
  have hx : M.xl (bs.getD 0 0) = 4294967296 := by unfold M.xl; rw [if_neg (by omega), if_neg (by omega)]
  have hxn : M.xn bs = M.lv (bs.drop 1) 8 := by unfold M.xn; rw [hs, if_neg (by decide)]
  have e1 : M.xe bs = 0 := by unfold M.xe; rw [hs, hx, hxn, if_neg (by omega), if_neg (fun h => hq h.2)]
  have e2 : M.xk bs = 1 + 8 := by unfold M.xk; rw [if_pos e1, hs]
  have e3 : M.xnum bs = M.lv (bs.drop 1) 8 := by unfold M.xnum; rw [if_pos e1, hxn]
  have HE := Lib.hid e1
  have HK := Lib.hid e2
  have HN := Lib.hid e3
  rw [hb0] at hcell0
  have hd1 : ∀ y ∈ bs.drop 1, y < 256 := fun y hy => hb y (List.mem_of_mem_drop hy)
  have hlt := M.lv_lt (bs.drop 1) hd1 8
  have hput : M.compB (M.lv (bs.drop 1) 8) = bs.take (1 + 8) := by
    have hle := M.leB_lv (bs.drop 1) hd1 8 (by rw [List.length_drop]; omega)
    generalize M.lv (bs.drop 1) 8 = q at *
    have hlt' : q < 18446744073709551616 := by simpa using hlt
    have c1 : M.cs q = 8 := by unfold M.cs; rw [if_neg (by omega), if_neg (by omega), if_neg (by omega)]
    have c2 : M.sg q = 255 := by unfold M.sg; rw [if_neg (by omega), if_neg (by omega), if_neg (by omega)]
    unfold M.compB
    rw [c1, c2, hle]
    cases bs with
    | nil => simp at hlen; omega
    | cons x l =>
      have hx0 : x = 255 := hb0
      subst hx0
      rfl
  have hgn : Hid ((M.lv (bs.drop 1) 8 : Nat) ≤ (18446744073709551615 : Int)) := Lib.hid (by
    have : M.lv (bs.drop 1) 8 < 18446744073709551616 := by simpa using hlt
    omega)
  have HPUT := Lib.hid hput
  clear e1 e2 e3 hs hx hb0 hlen hxn hlt hput hq hd1
  have hn3 : decide ((n : Int) < 9) = false := by simp; omega
  have hn4 : (9 : Int) ≤ (n : Int) := by omega
  have hc3 : (9 : Int) ≤ (c : Int) := by omega
  generalize M.lv (bs.drop 1) 8 = gn at *
  go_enter Try.func6, Try.ntmps6
  go_wp2_with fail
  refine (compact300 _).mono ?_
  rintro e w1 ⟨A1, c1, rfl, hcv, hb1⟩
  have hr1 := hr.below hb1
  have hcell : w1.cell? ⟨g, off, none⟩ = some (.int .u8 (255 : Int)) := by rw [hb1.cell hgB]; exact hcell0
  clear hcell0
  have hgw : g < w1.heap.size := Nat.lt_of_lt_of_le hgB hb1.size
  have hcA : ∀ o, (w1.alloc o).cell? ⟨g, off, none⟩ = some (.int .u8 (255 : Int)) := fun o => by rw [World.cell?_alloc_past _ _ _ hgw]; exact hcell
  have hcB : ∀ o o', ((w1.alloc o).alloc o').cell? ⟨g, off, none⟩ = some (.int .u8 (255 : Int)) := fun o o' => by rw [World.cell?_alloc_past _ _ _ (by simp; omega)]; exact hcA o
  go_wp2_with fail
  clear hcv
  refine (expand_any _ n c bs w1 _ hr1 hb (by omega) hc hcm).mono ?_
  rintro e w2 ⟨rfl, rfl⟩
  rw [HE.out, HK.out, HN.out]
  have rb0 : Rd w1 w.heap.size (some ⟨g, off, none⟩) (1 + 8) (bys (bs.take (1 + 8))) := by rw [bys_take]; exact hr1.take (1 + 8) (by omega)
  rw [← HPUT.out] at rb0
  have hws := hb1.size
  go_wp2
  have rbk : Rd ((w1.alloc (.cells #[.int .i64 3, .int .i64 5, .int .i64 9] 3)).drew) w.heap.size (some ⟨g, off, none⟩) 9 (bys (M.compB gn)) := (rb0.alloc hws _).drew
  have hbs : Below w.heap.size w ((w1.alloc (.cells #[.int .i64 3, .int .i64 5, .int .i64 9] 3)).drew) := (hb1.alloc hb1.size _).drew
  have hc0 := conv_of c rbk
  generalize hst2 : strB (M.compB gn) = st at *
  have Hst := Lib.hid hst2
  clear hst2 rb0 hr hb hr1 h300 hd hcell hgB hcA hcB
  generalize (w1.alloc (.cells #[.int .i64 3, .int .i64 5, .int .i64 9] 3)) = W2 at *
  refine wp_region_noPanic ?_
  refine wp_region_held_drew (S := fun w' => (convert 23 9 (.slice (some ⟨g, off, none⟩) (9) c)).run Try.prog w' = .ok (.string st) w') (by kernel_rfl) (hc0) (fun hHeld => ?_)
  refine wpAnyH_take (i := 0) (v := ?_) (by simp only [List.getElem?_toArray, List.getElem?_cons_succ, List.getElem?_cons_zero]; rfl) (by kernel_rfl) (by kernel_rfl) (by kernel_rfl) (fun _ _ _ h => h) (Or.inl ⟨by rfl, ?_⟩) (by assumption) ?_
  rotate_left
  · (intro w hSw; (try dsimp only at hSw); go_simp; (try with_reducible rfl))
  (try simp only [Act.put, List.setIfInBounds_toArray, List.set_cons_zero, List.set_cons_succ])
  refine wpAnyH_take (i := 1) (v := ?_) (by simp only [List.getElem?_toArray, List.getElem?_cons_succ, List.getElem?_cons_zero]; rfl) (by kernel_rfl) (by kernel_rfl) (by kernel_rfl) (fun _ _ _ h => h) (Or.inl ⟨by rfl, ?_⟩) (by assumption) ?_
  rotate_left
  · (intro w hSw; (try dsimp only at hSw); go_simp; (try with_reducible rfl))
  (try simp only [Act.put, List.setIfInBounds_toArray, List.set_cons_zero, List.set_cons_succ])
  refine wpAnyH_take (i := 2) (v := ?_) (by simp only [List.getElem?_toArray, List.getElem?_cons_succ, List.getElem?_cons_zero]; rfl) (by kernel_rfl) (by kernel_rfl) (by kernel_rfl) (fun _ _ _ h => h) (Or.inl ⟨by rfl, ?_⟩) (by assumption) ?_
  rotate_left
  · (intro w hSw; (try dsimp only at hSw); go_simp; (try with_reducible rfl))
  (try simp only [Act.put, List.setIfInBounds_toArray, List.set_cons_zero, List.set_cons_succ])
  refine wpAnyH_take (i := 3) (v := ?_) (by simp only [List.getElem?_toArray, List.getElem?_cons_succ, List.getElem?_cons_zero]; rfl) (by kernel_rfl) (by kernel_rfl) (by kernel_rfl) (fun _ _ _ h => h) (Or.inl ⟨by rfl, ?_⟩) (by assumption) ?_
  rotate_left
  · (intro w hSw; (try dsimp only at hSw); go_simp; (try with_reducible rfl))
  (try simp only [Act.put, List.setIfInBounds_toArray, List.set_cons_zero, List.set_cons_succ])
  refine wpAnyH_take (i := 4) (v := ?_) (by simp only [List.getElem?_toArray, List.getElem?_cons_succ, List.getElem?_cons_zero]; rfl) (by kernel_rfl) (by kernel_rfl) (by kernel_rfl) (fun _ _ _ h => h) (Or.inl ⟨by rfl, ?_⟩) (by assumption) ?_
  rotate_left
  · (intro w hSw; (try dsimp only at hSw); go_simp; (try with_reducible rfl))
  (try simp only [Act.put, List.setIfInBounds_toArray, List.set_cons_zero, List.set_cons_succ])
  refine wpAnyH_take (i := 7) (v := ?_) (by simp only [List.getElem?_toArray, List.getElem?_cons_succ, List.getElem?_cons_zero]; rfl) (by kernel_rfl) (by kernel_rfl) (by kernel_rfl) (fun _ _ _ h => h) (Or.inl ⟨by rfl, ?_⟩) (by assumption) ?_
  rotate_left
  · (intro w hSw; (try dsimp only at hSw); go_simp; (try with_reducible rfl))
  (try simp only [Act.put, List.setIfInBounds_toArray, List.set_cons_zero, List.set_cons_succ])
  refine wpAnyH_take (i := 8) (v := ?_) (by simp only [List.getElem?_toArray, List.getElem?_cons_succ, List.getElem?_cons_zero]; rfl) (by kernel_rfl) (by kernel_rfl) (by kernel_rfl) (fun _ _ _ h => h) (Or.inl ⟨by rfl, ?_⟩) (by assumption) ?_
  rotate_left
  · (intro w hSw; (try dsimp only at hSw); go_simp; (try with_reducible rfl))
  (try simp only [Act.put, List.setIfInBounds_toArray, List.set_cons_zero, List.set_cons_succ])
  refine wpAnyH_take (i := 9) (v := ?_) (by simp only [List.getElem?_toArray, List.getElem?_cons_succ, List.getElem?_cons_zero]; rfl) (by kernel_rfl) (by kernel_rfl) (by kernel_rfl) (fun _ _ _ h => h) (Or.inl ⟨by rfl, ?_⟩) (by assumption) ?_
  rotate_left
  · (intro w hSw; (try dsimp only at hSw); go_simp; (try with_reducible rfl))
  (try simp only [Act.put, List.setIfInBounds_toArray, List.set_cons_zero, List.set_cons_succ])
  refine wpAnyH_take (i := 10) (v := ?_) (by simp only [List.getElem?_toArray, List.getElem?_cons_succ, List.getElem?_cons_zero]; rfl) (by kernel_rfl) (by kernel_rfl) (by kernel_rfl) (fun _ _ _ h => h) (Or.inl ⟨by rfl, ?_⟩) (by assumption) ?_
  rotate_left
  · (intro w hSw; (try dsimp only at hSw); go_simp; (try with_reducible rfl))
  (try simp only [Act.put, List.setIfInBounds_toArray, List.set_cons_zero, List.set_cons_succ])
  refine wpAnyH_ready (rs := [5]) (by kernel_rfl) (by simp) ?_
  refine AllReadyH.cons (by simp only [List.getElem?_toArray, List.getElem?_cons_succ, List.getElem?_cons_zero]; rfl) (fun K hK => ?_) AllReadyH.nil
  go_simp
  refine (compact_nil gn hgn.out _).mono ?_
  rintro e w3 ⟨A2, c2, rfl, _, hr2, hb2⟩
  have hq := conv_of c2 hr2
  rw [Hst.out] at hq
  have hq2 := conv_of c (rbk.below (hb2.mono hbs.size))
  rw [Hst.out] at hq2
  clear hr2
  go_wp2_with fail
  refine hK.out _ _ ?_ (fun hHeld => ?_)
  · exact hq2
  clear hK K
  (try simp only [Act.put, List.setIfInBounds_toArray, List.set_cons_zero, List.set_cons_succ])
  refine wpAnyH_ready (rs := [6]) (by kernel_rfl) (by simp) ?_
  refine AllReadyH.cons (by simp only [List.getElem?_toArray, List.getElem?_cons_succ, List.getElem?_cons_zero]; rfl) (fun K hK => ?_) AllReadyH.nil
  go_simp
  skip
  refine hK.out _ _ ?_ (fun hHeld => ?_)
  · exact hq2
  clear hK K
  (try simp only [Act.put, List.setIfInBounds_toArray, List.set_cons_zero, List.set_cons_succ])
  refine wpAnyH_take (i := 11) (v := ?_) (by simp only [List.getElem?_toArray, List.getElem?_cons_succ, List.getElem?_cons_zero]; rfl) (by kernel_rfl) (by kernel_rfl) (by kernel_rfl) (fun _ _ _ h => h) (Or.inl ⟨by rfl, ?_⟩) (by assumption) ?_
  rotate_left
  · (intro w hSw; (try dsimp only at hSw); go_simp; (try with_reducible rfl))
  (try simp only [Act.put, List.setIfInBounds_toArray, List.set_cons_zero, List.set_cons_succ])
  refine wpAnyH_take (i := 12) (v := ?_) (by simp only [List.getElem?_toArray, List.getElem?_cons_succ, List.getElem?_cons_zero]; rfl) (by kernel_rfl) (by kernel_rfl) (by kernel_rfl) (fun _ _ _ h => h) (Or.inl ⟨by rfl, ?_⟩) (by assumption) ?_
  rotate_left
  · (intro w hSw; (try dsimp only at hSw); go_simp; (try with_reducible rfl))
  (try simp only [Act.put, List.setIfInBounds_toArray, List.set_cons_zero, List.set_cons_succ])
  refine wpAnyH_take (i := 13) (v := ?_) (by simp only [List.getElem?_toArray, List.getElem?_cons_succ, List.getElem?_cons_zero]; rfl) (by kernel_rfl) (by kernel_rfl) (by kernel_rfl) (fun _ _ _ h => h) (Or.inl ⟨by rfl, ?_⟩) (by assumption) ?_
  rotate_left
  · (intro w hSw; (try dsimp only at hSw); go_simp; (try with_reducible rfl))
  (try simp only [Act.put, List.setIfInBounds_toArray, List.set_cons_zero, List.set_cons_succ])
  refine wpAnyH_done (by kernel_rfl) ?_ _
  refine NoPanic.normal ?_
  go_wp2
  go_ret
  exact ⟨by simp, hbs.trans (hb2.mono hbs.size)⟩

theorem exps_sign_8 (A : Option Addr) (n c : Nat) (bs : List Nat) (w : World) (hr : Rd w w.heap.size A n (bys bs)) (hb : ∀ c ∈ bs, c < 256) (hlen : bs.length = n) (h300 : (n : Int) ≤ 300) (hc : n ≤ c) (hcm : (c : Int) ≤ 9223372036854775807) (hn0 : 0 < n) (hb0 : bs.getD 0 0 = 255) :
    Calls Try.prog 6 #[.slice A n c] w fun e w' => e = .returned (.bool true) ∧ Below w.heap.size w w' := by
  by_cases h1 : n < 1 + 8
  · exact exps_short_8 A n c bs w hr hb hlen h300 hc hcm hn0 hb0 h1
  · by_cases h2 : M.lv (bs.drop 1) 8 < 4294967296
    · exact exps_form_8 A n c bs w hr hb hlen h300 hc hcm hn0 hb0 (by omega) h2
    · exact exps_ok_8 A n c bs w hr hb hlen h300 hc hcm hn0 hb0 (by omega) h2
end Go.Proofs.Ytkbdmbefhndlcaa
