/- The reference's Mask. -/
import Derived.Test.YtajgmadohhagkaaDoorW3
import Derived.Test.YtajgmadohhagkaaDoorMsk
namespace Go.Proofs.YtajgmadohhagkaaDoor
set_option linter.unusedSimpArgs false
set_option linter.unusedVariables false
open Go.RowKit

theorem bl_rot (N : Nat) (h : N < 4294967296) : (bl N 32).drop 15 ++ (bl N 32).take 15 = bl (rotR N) 32 := by
  apply bl_ext
  · simp [bl_len]
  · intro k hk
    have e : rotR N = 2 ^ 17 * (N % 2 ^ 15) + N / 2 ^ 15 := by unfold rotR; omega
    have hlt : N / 2 ^ 15 < 2 ^ 17 := by omega
    rw [bit_b, e, Nat.testBit_two_pow_mul_add _ hlt]
    by_cases hk' : k < 17
    · rw [if_pos hk', List.getElem?_append_left (by simp [bl_len]; omega), List.getElem?_drop, bl_get _ _ _ (by omega), bit_b, Nat.testBit_div_two_pow, Nat.add_comm]
    · rw [if_neg hk', List.getElem?_append_right (by simp [bl_len]; omega), List.length_drop, bl_len, List.getElem?_take, if_pos (by omega), bl_get _ _ _ (by omega), bit_b, Nat.testBit_mod_two_pow, decide_eq_true (by omega), Bool.true_and]

set_option maxHeartbeats 1000000 in
set_option maxRecDepth 100000 in
theorem refmask_any (N : Nat) (hN : (N : Int) < 4294967296) (w : World) :
    Calls Tryd.prog 21 #[.int .u32 (N : Int)] w fun e w' => e = .returned (.int .u32 ((mk N : Nat) : Int)) ∧ Below w.heap.size w w' := by
  obtain ⟨i0, hi, hz0, hz1, hz2⟩ := info_parts Tryd.info3
  go_enter Tryd.func21, Tryd.ntmps21
  go_wp2_with fail
  refine (bits_any N hN w).mono ?_
  rintro e w1 ⟨v, rfl, hB, hw1⟩
  obtain ⟨A, cap, rfl, hcap, hR⟩ := hB.slice
  obtain ⟨g, off, rfl, hg, hcs⟩ := hR.2 (by omega)
  have HDT := Lib.hid (bl_rot N (by omega))
  have hDl : ((bl N 32).drop 15).length = 17 := by simp [bl_len]
  have hTl : ((bl N 32).take 15).length = 15 := by simp [bl_len]
  have hRD : Rd w1 w1.heap.size (some ⟨g, off + 15, none⟩) 17 (ints ((bl N 32).drop 15)) := by
    refine ⟨by rw [ints_len, hDl], fun _ => ⟨g, off + 15, rfl, hg, fun j u hu => ?_⟩⟩
    rw [Nat.add_assoc]
    refine hcs (15 + j) u ?_
    rw [← hu, ints, ints, List.map_drop, List.getElem?_drop]
  have hRT : Rd w1 w1.heap.size (some ⟨g, off, none⟩) 15 (ints ((bl N 32).take 15)) := by
    have := hR.take 15 (by omega)
    rwa [show (ints (bl N 32)).take 15 = ints ((bl N 32).take 15) by rw [ints, ints, List.map_take]] at this
  generalize (bl N 32).drop 15 = D at *
  generalize (bl N 32).take 15 = T at *
  have hi15 : (15 : Int) ≤ (cap : Int) := by omega
  have hne15 : ¬ cap = 15 := by omega
  have hi32 : (32 : Int) ≤ (cap : Int) := by omega
  go_wp2_with fail
  refine wp_region_noPanic ?_
  refine wp_region_held_drew (S := (fun _ => True)) (by kernel_rfl) (trivial) (fun hHeld => ?_)
  refine wpAnyH_take (i := 1) (v := ?_) (by simp only [List.getElem?_toArray, List.getElem?_cons_succ, List.getElem?_cons_zero]; rfl) (by kernel_rfl) (by kernel_rfl) (by kernel_rfl) (fun _ _ _ h => h) (Or.inl ⟨by rfl, ?_⟩) (by assumption) ?_
  rotate_left
  · (intro w hSw; (try dsimp only at hSw); go_simp; (try with_reducible rfl))
  (try simp only [Act.put, List.setIfInBounds_toArray, List.set_cons_zero, List.set_cons_succ])
  refine wpAnyH_take (i := 2) (v := ?_) (by simp only [List.getElem?_toArray, List.getElem?_cons_succ, List.getElem?_cons_zero]; rfl) (by kernel_rfl) (by kernel_rfl) (by kernel_rfl) (fun _ _ _ h => h) (Or.inl ⟨by rfl, ?_⟩) (by assumption) ?_
  rotate_left
  · (intro w hSw; (try dsimp only at hSw); go_simp; (try with_reducible rfl))
  (try simp only [Act.put, List.setIfInBounds_toArray, List.set_cons_zero, List.set_cons_succ])
  refine wpAnyH_take (i := 4) (v := ?_) (by simp only [List.getElem?_toArray, List.getElem?_cons_succ, List.getElem?_cons_zero]; rfl) (by kernel_rfl) (by kernel_rfl) (by kernel_rfl) (fun _ _ _ h => h) (Or.inl ⟨by rfl, ?_⟩) (by assumption) ?_
  rotate_left
  · (intro w hSw; (try dsimp only at hSw); go_simp; (try with_reducible rfl))
  (try simp only [Act.put, List.setIfInBounds_toArray, List.set_cons_zero, List.set_cons_succ])
  refine wpAnyH_take (i := 5) (v := ?_) (by simp only [List.getElem?_toArray, List.getElem?_cons_succ, List.getElem?_cons_zero]; rfl) (by kernel_rfl) (by kernel_rfl) (by kernel_rfl) (fun _ _ _ h => h) (Or.inl ⟨by rfl, ?_⟩) (by assumption) ?_
  rotate_left
  · (intro w hSw; (try dsimp only at hSw); go_simp; (try with_reducible rfl))
  (try simp only [Act.put, List.setIfInBounds_toArray, List.set_cons_zero, List.set_cons_succ])
  refine wpAnyH_ready (rs := [0]) (by kernel_rfl) (by simp) ?_
  refine AllReadyH.cons (by simp only [List.getElem?_toArray, List.getElem?_cons_succ, List.getElem?_cons_zero]; rfl) (fun K hK => ?_) AllReadyH.nil
  go_simp

  refine hK.out _ _ ?_ (fun hHeld => ?_)
  · exact trivial
  clear hK K
  (try simp only [Act.put, List.setIfInBounds_toArray, List.set_cons_zero, List.set_cons_succ])
  have hA0 : Buf (w1.alloc (.cells #[] 3)).drew w1.heap.size (.slice (some ⟨w1.heap.size, 0, none⟩) 0 0) 0 [] := (Buf.new w1 w1.heap.size 3 #[] (0, 0) (Nat.le_refl _) (by unfold maxLen; simp)).drew
  have hb0 : Below w1.heap.size w1 (w1.alloc (.cells #[] 3)).drew := by
    have := (Below.refl w1.heap.size w1).alloc (Nat.le_refl _) (.cells #[] 3)
    exact ⟨this.os, this.tape, this.output, this.size, this.block⟩
  have hd1 : Rd (w1.alloc (.cells #[] 3)).drew w1.heap.size (some ⟨g, off + 15, none⟩) 17 (ints D) := hRD.below hb0
  refine wpAnyH_ready (rs := [3]) (by kernel_rfl) (by simp) ?_
  refine AllReadyH.cons (by simp only [List.getElem?_toArray, List.getElem?_cons_succ, List.getElem?_cons_zero]; rfl) (fun K hK => ?_) AllReadyH.nil
  refine operwp_append_buf (w := (w1.alloc (.cells #[] 3)).drew) (v := .slice (some ⟨w1.heap.size, 0, none⟩) 0 0) (n := 0) (xs := []) (A := some ⟨g, off + 15, none⟩) (m := 17) (c := cap - 15) (news := ints D) ?_ (.tmp 8) (.tmp 10) 31 rfl w1.heap.size 3 i0 (.int .i64 0) 8 Tryd.underlying31 hi hz0 hz1 hz2 rfl ?_ hA0 ?_ hd1 (ints_one _) ?_ ?_ ?_ ?_
  · kernel_rfl
  · rfl
  · rfl
  · unfold maxLen; omega
  · omega
  · first | omega | simp | (simp; omega)
  intro pv pw p1 p2 p3
  refine hK.out _ _ trivial (fun hHeld => ?_)
  clear hK K
  (try simp only [Act.put, List.setIfInBounds_toArray, List.set_cons_zero, List.set_cons_succ])
  have hB1 := hb0.grown p2 (by simp) fun k hk => (hA0.lt k hk).1
  have hd2 : Rd pw w1.heap.size (some ⟨g, off, none⟩) 15 (ints T) := hRT.below hB1
  have hs1 := hB1.size
  rw [Nat.zero_add, List.nil_append] at p1
  refine wpAnyH_ready (rs := [6]) (by kernel_rfl) (by simp) ?_
  refine AllReadyH.cons (by simp only [List.getElem?_toArray, List.getElem?_cons_succ, List.getElem?_cons_zero]; rfl) (fun K hK => ?_) AllReadyH.nil
  refine operwp_append_buf (w := pw) (v := pv) (n := 17) (xs := ints D) (A := some ⟨g, off, none⟩) (m := 15) (c := cap) (news := ints T) ?_ (.tmp 11) (.tmp 13) 31 rfl w1.heap.size 3 i0 (.int .i64 0) 8 Tryd.underlying31 hi hz0 hz1 hz2 rfl ?_ p1 ?_ hd2 (ints_one _) ?_ ?_ ?_ ?_
  · kernel_rfl
  · rfl
  · rfl
  · unfold maxLen; omega
  · omega
  · first | omega | simp | (simp; omega)
  intro qv qw q1 q2 q3
  refine hK.out _ _ trivial (fun hHeld => ?_)
  clear hK K
  (try simp only [Act.put, List.setIfInBounds_toArray, List.set_cons_zero, List.set_cons_succ])
  have hB2 := hB1.grown q2 hs1 fun k hk => (p1.lt k hk).1
  rw [← ints_app, HDT.out] at q1
  refine wpAnyH_take (i := 7) (v := ?_) (by simp only [List.getElem?_toArray, List.getElem?_cons_succ, List.getElem?_cons_zero]; rfl) (by kernel_rfl) (by kernel_rfl) (by kernel_rfl) (fun _ _ _ h => h) (Or.inl ⟨by rfl, ?_⟩) (by assumption) ?_
  rotate_left
  · (intro w hSw; (try dsimp only at hSw); go_simp; (try with_reducible rfl))
  (try simp only [Act.put, List.setIfInBounds_toArray, List.set_cons_zero, List.set_cons_succ])
  refine wpAnyH_done (by kernel_rfl) ?_ _
  refine NoPanic.normal ?_
  have q1' : Buf qw w1.heap.size qv 32 (ints (bl (rotR N) 32)) := q1
  obtain ⟨A2, c2, rfl, hc2, hR2⟩ := q1'.slice
  obtain ⟨g2, off2, rfl, hg2, hcs2⟩ := hR2.2 (by omega)
  have hfin := hw1.trans (hB2.mono hw1.size)
  have hRl2 : Hid (rotR N < 4294967296) := Lib.hid (rotR_lt N (by omega))
  have HM : Hid (((mk N : Nat) : Int) = (((rotR N : Nat) : Int) + 2726488792) % 4294967296) := Lib.hid (by
    have hE : ((rotR N : Nat) : Int) + 2726488792 = ((rotR N + KK : Nat) : Int) := by rw [Int.natCast_add, KK_cast]
    rw [hE]; unfold mk; omega)
  generalize rotR N = R at *
  have HC : Hid (∀ j, j < 32 → qw.cell? ⟨g2, off2 + j, none⟩ = some (.int .i64 ((R / 2 ^ j % 2 : Nat) : Int))) := Lib.hid (fun j hj => hcs2 j _ (by rw [ints, List.getElem?_map, bl_get R 32 j hj]; rfl))
  have hQ0 : R / 2 ^ 32 = 0 := Nat.div_eq_of_lt hRl2.out
  clear q1' hR2
  clear p1 p2 p3 q1 q2 q3 hd1 hd2 hA0 hb0 hB1 hB2 hRD hRT hR hcs hcs2 hB
  go_wp2_with fail
  go_loop [4, 5] (fun nv i => ∃ m : Nat, m ≤ 32 ∧ i = .int .i64 ((m : Int) - 1) ∧ nv = .int .u32 ((R / 2 ^ m : Nat) : Int)) (fun _ i => (intOf i + 1).toNat)
  case atStart => exact ⟨32, Nat.le_refl _, rfl, by rw [hQ0]; rfl⟩
  case round =>
    obtain ⟨m, hm, rfl, rfl⟩ := hrel
    clear hQ0
    rcases m with _ | q
    · rw [Nat.pow_zero, Nat.div_one]
      go_wp2
      go_ret
      exact ⟨by rw [HM.out]; rfl, hfin⟩
    · have hq : q < 32 := by omega
      have hcell := HC.out q hq
      have hdl : Hid (R / 2 ^ q < 4294967296) := Lib.hid (Nat.lt_of_le_of_lt (Nat.div_le_self _ _) hRl2.out)
      have hx2 : R / 2 ^ q % 2 < 2 := Nat.mod_lt _ (by decide)
      have hre : R / 2 ^ q = 2 * (R / 2 ^ (q + 1)) + R / 2 ^ q % 2 := by rw [Nat.pow_succ, ← Nat.div_div_eq_div_mul]; omega
      have hqe : (((q + 1 : Nat) : Int) - 1) = (q : Int) := by omega
      rw [hqe]
      clear hqe
      have hd0 := hdl.out
      generalize R / 2 ^ q % 2 = x at *
      generalize R / 2 ^ (q + 1) = y at *
      generalize hz : R / 2 ^ q = z at *
      have HZ := Lib.hid hz
      clear hz
      have hze : (z : Int) = 2 * (y : Int) + (x : Int) := by omega
      have HZE := Lib.hid hze
      have hw1' : IntKind.u32.wrap (x : Int) = (x : Int) := by rw [IntWalk.u32_in _ (by omega)]
      have hw2' : IntKind.u32.wrap (2 * (y : Int)) = 2 * (y : Int) := by rw [IntWalk.u32_in _ (by omega)]
      have hw3' : IntKind.u32.wrap (2 * (y : Int) + (x : Int)) = 2 * (y : Int) + (x : Int) := by rw [IntWalk.u32_in _ (by omega)]
      have hy1 : (y : Int) * 2 ≤ 4294967295 := by omega
      have hx1 : (x : Int) < 2 := by omega
      have hyx : 2 * (y : Int) + (x : Int) < 4294967296 := by omega
      clear hre hze hd0 hx2
      go_wp2
      go_round
      case measure => simp [intOf]
      case rel => exact ⟨q, by omega, rfl, by rw [HZ.out, HZE.out]⟩
end Go.Proofs.YtajgmadohhagkaaDoor
