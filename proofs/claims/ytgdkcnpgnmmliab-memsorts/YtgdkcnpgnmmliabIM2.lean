/- slices.Insert of one int, in place. -/
import Derived.Test.YtgdkcnpgnmmliabM1
import Derived.IntWalk
namespace Go.Proofs.Ytgdkcnpgnmmliab
set_option linter.unusedSimpArgs false
set_option linter.unusedVariables false
open Go.RowKit

theorem infoEI : ∃ i, Try.prog.info? 3 = some i ∧ i.size = 1 ∧ i.zero = some (Value.int .i64 0) ∧ i.bytes = 8 := ⟨_, rfl, rfl, rfl, rfl⟩
theorem sizeEI : ∀ w, (Go.sizeOf 3).run Try.prog w = .ok 1 w := fun w => by
  obtain ⟨i, hi, hs, _⟩ := infoEI
  simp [sizeOf, typeInfo, hi, hs]
theorem run_overI (w : World) (vb g lb cb n1 o1 c1 : Nat) (cur X : Array Value) (hg : w.heap[g]? = some (.cells cur 3 (0, 0))) (hv : w.heap[vb]? = some (.cells X 3 (0, 0))) (hne : vb ≠ g) (h0 : cur.size ≠ 0) :
    (callFunc 42 #[.slice (some ⟨vb, 0, none⟩) n1 c1, .slice (some ⟨g, o1, none⟩) lb cb]).run Try.prog w = .ok (.value (.bool false)) w := by
  rw [run_callFunc_extern Try.func42 (by kernel_rfl) (by kernel_rfl) (by kernel_rfl) (e := Extern.SlicesOverlaps.overlaps #[28, 28] #[4]) (by kernel_rfl),
    Lib.run_overlaps_apart w 28 4 3 Try.underlying28 1 sizeEI ⟨vb, 0, none⟩ ⟨g, o1, none⟩ n1 c1 lb cb hne 3 3 X.size cur.size (by simp [World.shape?, hv]) (by simp [World.shape?, hg]) h0 (by simp [World.frozen?, hv]) (by simp [World.frozen?, hv])]
  rfl

set_option maxHeartbeats 1000000 in
set_option maxRecDepth 100000 in
theorem ins_shiftI (g n c i vb : Nat) (cur : Array Value) (x : List Value) (w : World) (hi : i < n) (hroom : n + 1 ≤ c) (hn6 : (n : Int) ≤ 1000000) (hcm : (c : Int) ≤ 9223372036854775807)
    (hg : w.heap[g]? = some (.cells cur 3 (0, 0))) (hcs : cur.size = c) (hv : w.heap[vb]? = some (.cells x.toArray 3 (0, 0))) (hx : x.length = 1) (hne : vb ≠ g)
    (h1c : ∀ v ∈ (cur.toList.take (n)).drop (i), v.oneCell' = true) (h1x : ∀ v ∈ x, v.oneCell' = true) :
    Calls Try.prog 29 #[.slice (some ⟨g, 0, none⟩) n c, .int .i64 (i : Int), .slice (some ⟨vb, 0, none⟩) 1 1] w fun e w' =>
      e = .returned (.slice (some ⟨g, 0, none⟩) (n + 1) c) ∧ w'.heap[g]? = some (.cells (seg (seg cur.toList (i + x.length) ((cur.toList.take (n)).drop (i))) (i) x).toArray 3 (0, 0)) ∧ w.grownBy w' (some g) := by
  have hov := fun w' lb cb o1 (h : w'.heap[g]? = some (.cells cur 3 (0, 0))) (h2 : w'.heap[vb]? = some (.cells x.toArray 3 (0, 0))) => run_overI w' vb g lb cb 1 o1 1 cur x.toArray h h2 hne (by rw [hcs]; omega)
  have hov0 := fun lb cb o1 => hov w lb cb o1 hg hv
  have hz2 : ¬ ((i : Int) = (n : Int)) := by omega
  have hz3 : ¬ ((c : Int) < (n : Int) + 1) := by omega
  have hin : i ≤ n := by omega
  have hb4 : ¬ (c = i) := by omega
  have hb2 : ¬ (c = i + 1) := by omega
  have htn : ((i : Int) + 1).toNat = i + 1 := by omega
  clear hov
  obtain ⟨ti, hti, hts, _⟩ := infoEI
  obtain ⟨ys, hys⟩ : ∃ ys, ys = (cur.toList.take (n)).drop (i) := ⟨_, rfl⟩
  rw [← hys] at h1c ⊢
  have hyl : ys.length = (n - i) := by rw [hys, List.length_drop, List.length_take, Array.length_toList, hcs]; omega
  have HC1 : Hid (∀ ty o1 o2 l1 l2 c1 c2, o1 = i + 1 → o2 = i → l1 = n - i → l2 = n + 1 - i → (Builtin.copy_ #[28, 28] ty #[.slice (some ⟨g, o1, none⟩) l1 c1, .slice (some ⟨g, o2, none⟩) l2 c2]).run Try.prog w.drew = .ok (goInt (Nat.min l2 l1)) (w.drew.setRow g (seg cur.toList (i + x.length) ys).toArray)) := by
    refine Lib.hid ?_
    intro ty o1 o2 l1 l2 c1 c2 e1 e2 e3 e4
    rw [e1, e2, e3, e4]
    rw [hx]
    refine run_copy_rowN w.drew _ _ ty 3 g (i + 1) _ c1 ⟨g, i, none⟩ _ c2 cur 3 ys 1 ti Try.underlying28 hti hts hg ?_ ?_ ?_ h1c
    · rw [hyl]
      show _ = min (n + 1 - i) (n - i) * 1
      rw [Nat.mul_one, Nat.min_eq_right (by omega)]
    · intro j v hj
      rw [Addr.add_lit]
      show w.cell? _ = _
      rw [cell_of_row w g _ cur 3 (0, 0) hg]
      rw [hys, List.getElem?_drop, List.getElem?_take] at hj
      split at hj
      · rw [← Array.getElem?_toList]; exact hj
      · cases hj
    · rw [hyl, hcs]; omega
  obtain ⟨W1, hW1⟩ : ∃ W1, W1 = w.drew.setRow g (seg cur.toList (i + x.length) ys).toArray := ⟨_, rfl⟩
  have hg1 : W1.heap[g]? = some (.cells (seg cur.toList (i + x.length) ys).toArray 3 (0, 0)) := by rw [hW1]; exact setRow_heap w.drew g cur _ _ _ hg
  have hv1 : W1.heap[vb]? = some (.cells x.toArray 3 (0, 0)) := by rw [hW1, setRow_other _ _ _ _ hne]; exact hv
  have hgr1 : w.grownBy W1 (some g) := by
    rw [hW1]
    exact ⟨rfl, rfl, rfl, by rw [setRow_size]; exact Nat.le_refl _, fun k hk hne => by rw [setRow_other _ _ _ _ (fun e => hne (by rw [e]))]; rfl⟩
  rw [← hW1] at HC1
  have HW1 := Lib.hid hW1
  clear hW1
  have hsl : (seg cur.toList (i + x.length) ys).length = c := by rw [seg_length _ _ _ (by rw [hx, hyl, Array.length_toList, hcs]; omega), Array.length_toList, hcs]
  have HC2 : Hid (∀ (W : World), W.heap = W1.heap → ∀ ty o1 l1 c1, o1 = i → l1 = n + 1 - i → (Builtin.copy_ #[28, 28] ty #[.slice (some ⟨g, o1, none⟩) l1 c1, .slice (some ⟨vb, 0, none⟩) 1 1]).run Try.prog W = .ok (goInt (Nat.min 1 l1)) (W.setRow g (seg (seg cur.toList (i + x.length) ys) (i) x).toArray)) := by
    refine Lib.hid ?_
    intro W hW ty o1 l1 c1 e1 e2
    rw [e1, e2]
    have h := run_copy_rowN (P := Try.prog) W 28 28 ty 3 g (i) (n + 1 - i) c1 ⟨vb, 0, none⟩ 1 1 (seg cur.toList (i + x.length) ys).toArray 3 x 1 ti Try.underlying28 hti hts (by rw [hW]; exact hg1) ?_ ?_ ?_ h1x
    · exact h
    · rw [hx]
      show _ = min 1 (n + 1 - i) * 1
      rw [Nat.mul_one, Nat.min_eq_left (by omega)]
    · intro j v hj
      rw [Addr.add_lit, cell_of_row W vb _ x.toArray 3 (0, 0) (by rw [hW]; exact hv1)]
      simpa using hj
    · rw [List.size_toArray, hsl, hx]; omega
  have HF : Hid (∀ W : World, W.heap = W1.heap → W.os = W1.os → W.tape = W1.tape → W.output = W1.output → (W.setRow g (seg (seg cur.toList (i + x.length) ys) (i) x).toArray).heap[g]? = some (.cells (seg (seg cur.toList (i + x.length) ys) (i) x).toArray 3 (0, 0)) ∧ w.grownBy (W.setRow g (seg (seg cur.toList (i + x.length) ys) (i) x).toArray) (some g)) := by
    refine Lib.hid ?_
    intro W hW h2 h3 h4
    refine ⟨setRow_heap W g _ _ _ _ (by rw [hW]; exact hg1), ⟨h2.trans hgr1.os, h3.trans hgr1.tape, h4.trans hgr1.output, by rw [setRow_size, hW]; exact hgr1.size, fun k hk hne => ?_⟩⟩
    rw [setRow_other _ _ _ _ (fun e => hne (by rw [e])), hW]
    exact hgr1.block k hk hne
  have HG1 := Lib.hid hgr1
  generalize (seg (seg cur.toList (i + x.length) ys) (i) x).toArray = R2 at *
  clear hgr1 hg1 hv1 hsl hyl hti hts hys h1c h1x hx hcs
  go_enter Try.func29, Try.ntmps29
  go_upto_region 15 with (simp only [hov0])
  have hw1 : IntKind.i64.wrap ((i : Int) + 1) = (i : Int) + 1 := IntWalk.i64_in _ (by omega)
  have hp1 : (0 : Int) ≤ (i : Int) + 1 := by clear hw1; omega
  have hp2 : (i : Int) + 1 ≤ (n : Int) + 1 := by clear hw1; omega
  have hp3 : (i : Int) ≤ (n : Int) + 1 := by clear hw1; omega
  refine wp_region_noPanic ?_
  refine wp_region_held_drew (S := (fun wx => w.grownBy wx (some g))) (by kernel_rfl) (⟨rfl, rfl, rfl, Nat.le_refl _, fun _ _ _ => rfl⟩) (fun hHeld => ?_)
  refine wpAnyH_take (i := 0) (v := ?_) (by simp only [List.getElem?_toArray, List.getElem?_cons_succ, List.getElem?_cons_zero]; rfl) (by kernel_rfl) (by kernel_rfl) (by kernel_rfl) (fun _ _ _ h => h) (Or.inl ⟨by rfl, ?_⟩) (by assumption) ?_
  rotate_left
  · (intro w hSw; (try dsimp only at hSw); go_simp; (try with_reducible rfl))
  (try simp only [Act.put, List.setIfInBounds_toArray, List.set_cons_zero, List.set_cons_succ])
  refine wpAnyH_take (i := 1) (v := ?_) (by simp only [List.getElem?_toArray, List.getElem?_cons_succ, List.getElem?_cons_zero]; rfl) (by kernel_rfl) (by kernel_rfl) (by kernel_rfl) (fun _ _ _ h => h) (Or.inl ⟨by rfl, ?_⟩) (by assumption) ?_
  rotate_left
  · (intro w hSw; (try dsimp only at hSw); go_simp; (try with_reducible rfl))
  (try simp only [Act.put, List.setIfInBounds_toArray, List.set_cons_zero, List.set_cons_succ])
  refine wpAnyH_take (i := 2) (v := ?_) (by simp only [List.getElem?_toArray, List.getElem?_cons_succ, List.getElem?_cons_zero]; rfl) (by kernel_rfl) (by kernel_rfl) (by kernel_rfl) (fun _ _ _ h => h) (Or.inl ⟨by rfl, ?_⟩) (by assumption) ?_
  rotate_left
  · (intro w hSw; (try dsimp only at hSw); go_simp; (try with_reducible rfl))
  (try simp only [Act.put, List.setIfInBounds_toArray, List.set_cons_zero, List.set_cons_succ])
  refine wpAnyH_take (i := 3) (v := ?_) (by simp only [List.getElem?_toArray, List.getElem?_cons_succ, List.getElem?_cons_zero]; rfl) (by kernel_rfl) (by kernel_rfl) (by kernel_rfl) (fun _ _ _ h => h) (Or.inl ⟨by rfl, ?_⟩) (by assumption) ?_
  rotate_left
  · (intro w hSw; (try dsimp only at hSw); go_simp; (try with_reducible rfl))
  (try simp only [Act.put, List.setIfInBounds_toArray, List.set_cons_zero, List.set_cons_succ])
  refine wpAnyH_take (i := 4) (v := ?_) (by simp only [List.getElem?_toArray, List.getElem?_cons_succ, List.getElem?_cons_zero]; rfl) (by kernel_rfl) (by kernel_rfl) (by kernel_rfl) (fun _ _ _ h => h) (Or.inl ⟨by rfl, ?_⟩) (by assumption) ?_
  rotate_left
  · (intro w hSw; (try dsimp only at hSw); go_simp; (try with_reducible rfl))
  (try simp only [Act.put, List.setIfInBounds_toArray, List.set_cons_zero, List.set_cons_succ])
  refine wpAnyH_take (i := 5) (v := ?_) (by simp only [List.getElem?_toArray, List.getElem?_cons_succ, List.getElem?_cons_zero]; rfl) (by kernel_rfl) (by kernel_rfl) (by kernel_rfl) (fun _ _ _ h => h) (Or.inl ⟨by rfl, ?_⟩) (by assumption) ?_
  rotate_left
  · (intro w hSw; (try dsimp only at hSw); go_simp; (try with_reducible rfl))
  (try simp only [Act.put, List.setIfInBounds_toArray, List.set_cons_zero, List.set_cons_succ])
  refine wpAnyH_take (i := 6) (v := ?_) (by simp only [List.getElem?_toArray, List.getElem?_cons_succ, List.getElem?_cons_zero]; rfl) (by kernel_rfl) (by kernel_rfl) (by kernel_rfl) (fun _ _ _ h => h) (Or.inl ⟨by rfl, ?_⟩) (by assumption) ?_
  rotate_left
  · (intro w hSw; (try dsimp only at hSw); go_simp; (try with_reducible rfl))
  (try simp only [Act.put, List.setIfInBounds_toArray, List.set_cons_zero, List.set_cons_succ])
  refine wpAnyH_take (i := 7) (v := ?_) (by simp only [List.getElem?_toArray, List.getElem?_cons_succ, List.getElem?_cons_zero]; rfl) (by kernel_rfl) (by kernel_rfl) (by kernel_rfl) (fun _ _ _ h => h) (Or.inl ⟨by rfl, ?_⟩) (by assumption) ?_
  rotate_left
  · (intro w hSw; (try dsimp only at hSw); go_simp; (try with_reducible rfl))
  (try simp only [Act.put, List.setIfInBounds_toArray, List.set_cons_zero, List.set_cons_succ])
  refine wpAnyH_ready (rs := [8]) (by kernel_rfl) (by simp) ?_
  refine AllReadyH.cons (by simp only [List.getElem?_toArray, List.getElem?_cons_succ, List.getElem?_cons_zero]; rfl) (fun K hK => ?_) AllReadyH.nil
  refine (if_pos rfl).mpr (wp_copy_run (.tmp 73) (.tmp 76) 28 28 rfl rfl rfl (HC1.out _ _ _ _ _ _ _ (by clear hw1; omega) (by clear hw1; omega) (by clear hw1; omega) (by clear hw1; omega)) ?_)
  refine hK.out _ _ ?_ (fun hHeld => ?_)
  · exact HG1.out
  clear hK K
  (try simp only [Act.put, List.setIfInBounds_toArray, List.set_cons_zero, List.set_cons_succ])
  refine wpAnyH_done (by kernel_rfl) ?_ _
  refine NoPanic.normal ?_
  clear hw1 hp1 hp2
  go_wp2
  rw [HC2.out _ rfl _ _ _ _ rfl rfl]
  go_wp2
  go_ret
  exact ⟨rfl, HF.out _ rfl rfl rfl rfl⟩
end Go.Proofs.Ytgdkcnpgnmmliab
