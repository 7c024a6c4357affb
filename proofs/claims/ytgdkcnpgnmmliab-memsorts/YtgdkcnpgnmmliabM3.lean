/- slices.Insert of one entry: where it must grow, and at the end. -/
import Derived.Test.YtgdkcnpgnmmliabM2
import Derived.Test.YtgdkcnpgnmmliabArm
namespace Go.Proofs.Ytgdkcnpgnmmliab
set_option linter.unusedSimpArgs false
set_option linter.unusedVariables false
open Go.RowKit

theorem wp_appz {P : Program} {w : World} {o : Oper} {a : Act} {K : Act → World → Prop} {Q : Exit → Act → World → Prop} (d s : Operand) (t t' : TypeId)
    (ho : o.op = .call { callee := .builtin .append, args := #[d, s], argTypes := #[t, t'] }) {v u v' : Value} {w' : World} (hd : a.eval d = v) (hs : a.eval s = u)
    (hr : (Builtin.append_ #[t, t'] o.type #[v, u]).run P w = .ok v' w') (h : K (a.put o.dst v') w') : o.wp P a w K Q := by
  unfold Oper.wp execOp
  simp only [ho, resolve, invoke, builtin, Sem.run_bind, Sem.run_pure, Result.andThen_ok, List.map_toArray, List.map_cons, List.map_nil, hd, hs, hr]
  exact h
theorem wpList_appz {P : Program} {w : World} {ops : Array Oper} {rest : List Oper} {o : Oper} {a : Act} {Q : Exit → Act → World → Prop} (hgd : o.guard = none) (s x : Operand) (t u : TypeId)
    (ho : o.op = .call { callee := .builtin .append, args := #[s, x], argTypes := #[t, u] }) {v y v' : Value} {w' : World} (hs : a.eval s = v) (hx : a.eval x = y)
    (hrun : (Builtin.append_ #[t, u] o.type #[v, y]).run P w = .ok v' w') (hK : wpList P ops Q rest (a.put o.dst v') w') : wpList P ops Q (o :: rest) a w :=
  wpList_plain hgd fun K hK' => wp_appz s x t u ho hs hx hrun (hK' _ _ hK)
theorem wpList_copyb {P : Program} {w : World} {ops : Array Oper} {rest : List Oper} {o : Oper} {a : Act} {Q : Exit → Act → World → Prop} (hgd : o.guard = none) (s x : Operand) (t u : TypeId)
    (ho : o.op = .call { callee := .builtin .copy, args := #[s, x], argTypes := #[t, u] }) {v y v' : Value} {w' : World} (hs : a.eval s = v) (hx : a.eval x = y)
    (hrun : (Builtin.copy_ #[t, u] o.type #[v, y]).run P w = .ok v' w') (hK : wpList P ops Q rest (a.put o.dst v') w') : wpList P ops Q (o :: rest) a w :=
  wpList_plain hgd fun K hK' => wp_copy_run s x t u ho hs hx hrun (hK' _ _ hK)

theorem firstCells_row (w : World) (g i n : Nat) (cur : Array Value) (t : TypeId) (hg : w.heap[g]? = some (.cells cur t (0, 0))) (hi : i * 4 ≤ cur.size) :
    (Builtin.firstCells 4 i (.slice (some ⟨g, 0, none⟩) i n)).run Try.prog w.drew = .ok (cur.toList.take (i * 4)).toArray w.drew := by
  have h := run_loadCells_list (P := Try.prog) w.drew ⟨g, 0, none⟩ (cur.toList.take (i * 4)) (fun j v hj => by
    rw [Addr.add_lit]
    show w.cell? _ = _
    rw [cell_of_row w g _ cur t (0, 0) hg]
    rw [List.getElem?_take] at hj
    split at hj
    · rw [← Array.getElem?_toList]; simpa using hj
    · cases hj)
  rw [List.length_take, Array.length_toList, Nat.min_eq_left hi] at h
  simp [Builtin.firstCells, h]

theorem zrep (n : Nat) (z : Array Value) : ∀ v ∈ (Builtin.zeroCells z n).toList, v = default ∨ v ∈ z.toList := by
  intro v hv
  simp only [Builtin.zeroCells] at hv
  simp at hv
  obtain ⟨a, _, rfl⟩ := hv
  by_cases h : a % z.size < z.size
  · right; rw [getElem!_pos z _ h]; exact Array.getElem_mem_toList h
  · left; rw [getElem!_neg z _ h]

set_option maxHeartbeats 1000000 in
set_option maxRecDepth 100000 in
theorem ins_grow (g n i vb : Nat) (cur : Array Value) (x : List Value) (w : World) (hi : i < n) (hn6 : (n : Int) ≤ 1000000)
    (hg : w.heap[g]? = some (.cells cur 42 (0, 0))) (hcs : cur.size = n * 4) (hv : w.heap[vb]? = some (.cells x.toArray 42 (0, 0))) (hx : x.length = 4)
    (h1c : ∀ v ∈ cur.toList.drop (i * 4), v.oneCell' = true) (h1x : ∀ v ∈ x, v.oneCell' = true) :
    Calls Try.prog 48 #[.slice (some ⟨g, 0, none⟩) n n, .int .i64 (i : Int), .slice (some ⟨vb, 0, none⟩) 1 1] w fun e w' =>
      ∃ GC cur2, e = .returned (.slice (some ⟨w.heap.size, 0, none⟩) (n + 1) GC) ∧ w'.heap[w.heap.size]? = some (.cells cur2 42 (0, 0)) ∧ n + 1 ≤ GC ∧ GC ≤ maxLen ∧ cur2.size = GC * 4 ∧ cur2.toList.take ((n + 1) * 4) = cur.toList.take (i * 4) ++ x ++ cur.toList.drop (i * 4) ∧ w.grownBy w' none := by
  obtain ⟨ti, hti, hts, htz, htb⟩ := infoE
  obtain ⟨GC, hGC⟩ : ∃ GC, GC = grownCap w (i + (n + 1 - i)) n 42 := ⟨_, rfl⟩
  have hGC1 : n + 1 ≤ GC := by rw [hGC]; have := grownCap_ge w (i + (n + 1 - i)) n 42; omega
  have hGC2 : GC ≤ maxLen := by rw [hGC]; exact grownCap_le_maxLen w _ _ _ (by unfold maxLen; omega)
  obtain ⟨z, hz⟩ : ∃ z, z = ent ⟨#[]⟩ 0 false ⟨#[]⟩ := ⟨_, rfl⟩
  obtain ⟨c2, hc2⟩ : ∃ c2, c2 = (cur.toList.take (i * 4)).toArray ++ Builtin.zeroCells z.cells (n + 1 - i) ++ Builtin.zeroCells z.cells (GC - (i + (n + 1 - i))) := ⟨_, rfl⟩
  have hc2s : c2.size = GC * 4 := by
    rw [hc2, Array.size_append, Array.size_append, size_zeroCells, size_zeroCells, hz, List.size_toArray, List.length_take, Array.length_toList, hcs]
    show min (i * 4) (n * 4) + (n + 1 - i) * 4 + (GC - (i + (n + 1 - i))) * 4 = GC * 4
    omega
  have hc2t : c2.toList.take (i * 4) = cur.toList.take (i * 4) := by
    rw [hc2, Array.toList_append, Array.toList_append, List.append_assoc, List.take_append_of_le_length (by simp [hcs]; omega), List.toList_toArray, List.take_take, Nat.min_self]
  have HRUN : Hid (∀ ty (y : Int), y = ((n + 1 - i : Nat) : Int) → (Builtin.append_ #[35, 3] ty #[.slice (some ⟨g, 0, none⟩) i n, .int .i64 y]).run Try.prog w = .ok (.slice (some ⟨w.heap.size, 0, none⟩) (n + 1) GC) (w.drew.alloc (.cells c2 42))) := by
    refine Lib.hid ?_
    intro ty y hy
    subst hy
    have h := Lib.run_append_grow_zeros (P := Try.prog) w 35 3 ty 42 ti z .i64 .i64 Try.underlying35 Try.underlying3 hti (by rw [htz, hz]) (some ⟨g, 0, none⟩) i n (cur.toList.take (i * 4))
      (by rw [hts]; exact firstCells_row w g i n cur _ hg (by rw [hcs]; omega)) (n + 1 - i) (by omega) (by rw [hts]; omega) (by omega) (by omega) (by rw [htb]; omega) (growslice_fits (by omega) (by rw [htb]; omega))
    rw [h, ← hGC, ← hc2, show i + (n + 1 - i) = n + 1 by omega]
  obtain ⟨W1, hW1⟩ : ∃ W1, W1 = w.drew.alloc (.cells c2 42) := ⟨_, rfl⟩
  have hs0 : w.drew.heap.size = w.heap.size := rfl
  have hgl : g < w.heap.size := (Array.getElem?_eq_some_iff.1 hg).1
  have hvl : vb < w.heap.size := (Array.getElem?_eq_some_iff.1 hv).1
  have b1 : Below w.heap.size w W1 := by rw [hW1]; exact ((Below.refl _ _).drew).alloc (Nat.le_refl _) _
  have hg2 : W1.heap[w.heap.size]? = some (.cells c2 42 (0, 0)) := by rw [hW1]; exact heap_alloc_new w.drew _
  have hgW : W1.heap[g]? = some (.cells cur 42 (0, 0)) := by rw [b1.block g hgl]; exact hg
  have hvW : W1.heap[vb]? = some (.cells x.toArray 42 (0, 0)) := by rw [b1.block vb hvl]; exact hv
  have hxl : x.length = 4 := hx
  obtain ⟨ys, hys⟩ : ∃ ys, ys = cur.toList.drop (i * 4) := ⟨_, rfl⟩
  have hyl : ys.length = (n - i) * 4 := by rw [hys, List.length_drop, Array.length_toList, hcs]; omega
  obtain ⟨c3, hc3⟩ : ∃ c3, c3 = (seg c2.toList (i * 4) x).toArray := ⟨_, rfl⟩
  obtain ⟨c4, hc4⟩ : ∃ c4, c4 = (seg c3.toList (i * 4 + 4) ys).toArray := ⟨_, rfl⟩
  have hc3s : c3.size = GC * 4 := by rw [hc3, List.size_toArray, seg_length _ _ _ (by rw [hx, Array.length_toList, hc2s]; omega), Array.length_toList, hc2s]
  have hc4s : c4.size = GC * 4 := by rw [hc4, List.size_toArray, seg_length _ _ _ (by rw [hyl, Array.length_toList, hc3s]; omega), Array.length_toList, hc3s]
  have hfin : c4.toList.take ((n + 1) * 4) = cur.toList.take (i * 4) ++ x ++ cur.toList.drop (i * 4) := by
    have h := seg_xy c2.toList (i * 4) x ys (by rw [hx, hyl, Array.length_toList, hc2s]; omega)
    rw [hc2t] at h
    rw [hc4, hc3, ← hys]
    show (seg (seg c2.toList (i * 4) x) (i * 4 + 4) ys).take _ = _
    rw [← h, hx, hyl]
    congr 1
    omega
  have HC1 : Hid (∀ ty o l c, o = i * 4 → l = n + 1 - i → (Builtin.copy_ #[35, 35] ty #[.slice (some ⟨w.heap.size, o, none⟩) l c, .slice (some ⟨vb, 0, none⟩) 1 1]).run Try.prog W1 = .ok (goInt (Nat.min 1 l)) (W1.setRow w.heap.size c3)) := by
    refine Lib.hid ?_
    intro ty o l c e1 e2
    subst e1; subst e2
    rw [hc3]
    refine run_copy_rowN (P := Try.prog) W1 35 35 ty 42 w.heap.size (i * 4) (n + 1 - i) c ⟨vb, 0, none⟩ 1 1 c2 42 x 4 ti Try.underlying35 hti hts hg2 ?_ ?_ ?_ h1x
    · rw [hx]
      show _ = min 1 (n + 1 - i) * 4
      rw [Nat.min_eq_left (by omega)]
    · intro j v hj
      rw [Addr.add_lit, cell_of_row W1 vb _ x.toArray 42 (0, 0) hvW]
      simpa using hj
    · rw [hx, hc2s]; omega
  obtain ⟨W2, hW2⟩ : ∃ W2, W2 = W1.setRow w.heap.size c3 := ⟨_, rfl⟩
  have hg3 : W2.heap[w.heap.size]? = some (.cells c3 42 (0, 0)) := by rw [hW2]; exact setRow_heap W1 _ c2 _ _ _ hg2
  have hgW2 : W2.heap[g]? = some (.cells cur 42 (0, 0)) := by rw [hW2, setRow_other _ _ _ _ (by omega)]; exact hgW
  have HC2 : Hid (∀ ty o1 o2 l1 l2 c1 c2, o1 = i * 4 + 4 → o2 = i * 4 → l1 = n - i → l2 = n - i → (Builtin.copy_ #[35, 35] ty #[.slice (some ⟨w.heap.size, o1, none⟩) l1 c1, .slice (some ⟨g, o2, none⟩) l2 c2]).run Try.prog W2.drew = .ok (goInt (Nat.min l2 l1)) (W2.drew.setRow w.heap.size c4)) := by
    refine Lib.hid ?_
    intro ty o1 o2 l1 l2 c1 c2 e1 e2 e3 e4
    subst e1; subst e2; subst e3; subst e4
    rw [hc4]
    refine run_copy_rowN (P := Try.prog) W2.drew 35 35 ty 42 w.heap.size (i * 4 + 4) (n - i) c1 ⟨g, i * 4, none⟩ (n - i) c2 c3 42 ys 4 ti Try.underlying35 hti hts hg3 ?_ ?_ ?_ ?_
    · rw [hyl]
      show _ = min (n - i) (n - i) * 4
      rw [Nat.min_self]
    · intro j v hj
      rw [Addr.add_lit]
      show W2.cell? _ = _
      rw [cell_of_row W2 g _ cur 42 (0, 0) hgW2, ← Array.getElem?_toList]
      rw [hys, List.getElem?_drop] at hj
      exact hj
    · rw [hyl, hc3s]; omega
    · rw [hys]; exact h1c
  obtain ⟨W3, hW3⟩ : ∃ W3, W3 = W2.drew.setRow w.heap.size c4 := ⟨_, rfl⟩
  have HF : Hid (W3.heap[w.heap.size]? = some (.cells c4 42 (0, 0)) ∧ w.grownBy W3 none) := by
    refine Lib.hid ⟨by rw [hW3]; exact setRow_heap W2.drew _ c3 _ _ _ hg3, ?_⟩
    rw [hW3, hW2]
    refine ⟨b1.os, b1.tape, b1.output, ?_, fun k hk _ => ?_⟩
    · rw [setRow_size]; show _ ≤ (W1.setRow _ _).heap.size; rw [setRow_size]; exact b1.size
    · rw [setRow_other _ _ _ _ (by omega)]; show (W1.setRow _ _).heap[k]? = _; rw [setRow_other _ _ _ _ (by omega)]; exact b1.block k hk
  have HB : Hid (w.heap.size < W2.heap.size ∧ W2.heap.size ≤ W3.heap.size) := by
    refine Lib.hid ⟨(Array.getElem?_eq_some_iff.1 hg3).1, ?_⟩
    rw [hW3, setRow_size]; exact Nat.le_refl _
  rw [← hW1] at HRUN
  rw [← hW2] at HC1
  rw [← hW3] at HC2
  have HFIN := Lib.hid (And.intro hGC1 (And.intro hGC2 (And.intro hc4s hfin)))
  clear hW1 hW2 hW3 hfin hc4 hc4s hc3 hc3s hc2 hc2s hc2t hz hGC2 hGC h1c h1x hti hts htz htb hs0 b1 hg2 hgW hvW hg3 hgW2 hyl hys hv hx hxl hcs hg
  generalize hg2n : w.heap.size = g2 at *
  have HG2 := Lib.hid hg2n
  clear hg2n
  have hz2 : ¬ ((i : Int) = (n : Int)) := by omega
  have hz3 : (n : Int) < (n : Int) + 1 := by omega
  have hz4 : ¬ (n = i) := by omega
  have hz5 : ¬ (GC = i) := by omega
  have hz6 : ¬ (GC = i + 1) := by omega
  have hin : i ≤ n := by omega
  have hin1 : i ≤ n + 1 := by omega
  go_enter Try.func48, Try.ntmps48
  have hrz := fun ty => HRUN.out ty ((n : Int) + 1 - (i : Int)) (by omega)
  clear HRUN
  go_upto_region 10 with (at_builtin; refine wpList_appz rfl (.tmp 34) (.tmp 39) 35 3 rfl rfl rfl (hrz _) ?_)
  clear hrz
  go_wp2
  rw [HC1.out _ _ _ _ rfl rfl]
  go_upto_region 11 with fail
  have hw1 : IntKind.i64.wrap ((i : Int) + 1) = (i : Int) + 1 := IntWalk.i64_in _ (by omega)
  have hp1 : (0 : Int) ≤ (i : Int) + 1 := by clear hw1; omega
  have hp2 : (i : Int) + 1 ≤ (n : Int) + 1 := by clear hw1; omega
  have hp3 : (i : Int) ≤ (n : Int) := by clear hw1; omega
  have htn : ((i : Int) + 1).toNat = i + 1 := by clear hw1; omega
  refine wp_region_noPanic ?_
  refine wp_region_held_drew (S := (fun wx => W2.heap.size ≤ wx.heap.size)) (by kernel_rfl) (Nat.le_refl _) (fun hHeld => ?_)
  refine wpAnyH_take (i := 0) (v := ?_) (by simp only [List.getElem?_toArray, List.getElem?_cons_succ, List.getElem?_cons_zero]; rfl) (by kernel_rfl) (by kernel_rfl) (by kernel_rfl) (fun _ _ _ h => h) (Or.inl ⟨by rfl, ?_⟩) (by assumption) ?_
  rotate_left
  · (intro w hSw; (try dsimp only at hSw); go_simp; (try with_reducible rfl))
  (try simp only [Act.put, List.setIfInBounds_toArray, List.set_cons_zero, List.set_cons_succ])
  refine wpAnyH_take (i := 1) (v := ?_) (by simp only [List.getElem?_toArray, List.getElem?_cons_succ, List.getElem?_cons_zero]; rfl) (by kernel_rfl) (by kernel_rfl) (by kernel_rfl) (fun _ _ _ h => h) (Or.inl ⟨by rfl, ?_⟩) (by assumption) ?_
  rotate_left
  · (intro w hSw; (try dsimp only at hSw); go_simp; (try with_reducible rfl))
  (try simp only [Act.put, List.setIfInBounds_toArray, List.set_cons_zero, List.set_cons_succ])
  refine wpAnyH_take (i := 2) (v := ?_) (by simp only [List.getElem?_toArray, List.getElem?_cons_succ, List.getElem?_cons_zero]; rfl) (by kernel_rfl) (by kernel_rfl) (by kernel_rfl) (fun _ _ _ h => h) (Or.inl ⟨by rfl, ?_⟩) (by assumption) ?_
  rotate_left
  · (intro w hSw; (try dsimp only at hSw); go_simp; (try with_reducible rfl))
  (try simp only [Act.put, List.setIfInBounds_toArray, List.set_cons_zero, List.set_cons_succ])
  refine wpAnyH_take (i := 3) (v := ?_) (by simp only [List.getElem?_toArray, List.getElem?_cons_succ, List.getElem?_cons_zero]; rfl) (by kernel_rfl) (by kernel_rfl) (by kernel_rfl) (fun _ _ _ h => h) (Or.inl ⟨by rfl, ?_⟩) (by assumption) ?_
  rotate_left
  · (intro w hSw; (try dsimp only at hSw); go_simp; (try with_reducible rfl))
  (try simp only [Act.put, List.setIfInBounds_toArray, List.set_cons_zero, List.set_cons_succ])
  refine wpAnyH_take (i := 4) (v := ?_) (by simp only [List.getElem?_toArray, List.getElem?_cons_succ, List.getElem?_cons_zero]; rfl) (by kernel_rfl) (by kernel_rfl) (by kernel_rfl) (fun _ _ _ h => h) (Or.inl ⟨by rfl, ?_⟩) (by assumption) ?_
  rotate_left
  · (intro w hSw; (try dsimp only at hSw); go_simp; (try with_reducible rfl))
  (try simp only [Act.put, List.setIfInBounds_toArray, List.set_cons_zero, List.set_cons_succ])
  refine wpAnyH_take (i := 5) (v := ?_) (by simp only [List.getElem?_toArray, List.getElem?_cons_succ, List.getElem?_cons_zero]; rfl) (by kernel_rfl) (by kernel_rfl) (by kernel_rfl) (fun _ _ _ h => h) (Or.inl ⟨by rfl, ?_⟩) (by assumption) ?_
  rotate_left
  · (intro w hSw; (try dsimp only at hSw); go_simp; (try with_reducible rfl))
  (try simp only [Act.put, List.setIfInBounds_toArray, List.set_cons_zero, List.set_cons_succ])
  refine wpAnyH_take (i := 6) (v := ?_) (by simp only [List.getElem?_toArray, List.getElem?_cons_succ, List.getElem?_cons_zero]; rfl) (by kernel_rfl) (by kernel_rfl) (by kernel_rfl) (fun _ _ _ h => h) (Or.inl ⟨by rfl, ?_⟩) (by assumption) ?_
  rotate_left
  · (intro w hSw; (try dsimp only at hSw); go_simp; (try with_reducible rfl))
  (try simp only [Act.put, List.setIfInBounds_toArray, List.set_cons_zero, List.set_cons_succ])
  refine wpAnyH_take (i := 7) (v := ?_) (by simp only [List.getElem?_toArray, List.getElem?_cons_succ, List.getElem?_cons_zero]; rfl) (by kernel_rfl) (by kernel_rfl) (by kernel_rfl) (fun _ _ _ h => h) (Or.inl ⟨by rfl, ?_⟩) (by assumption) ?_
  rotate_left
  · (intro w hSw; (try dsimp only at hSw); go_simp; (try with_reducible rfl))
  (try simp only [Act.put, List.setIfInBounds_toArray, List.set_cons_zero, List.set_cons_succ])
  refine wpAnyH_ready (rs := [8]) (by kernel_rfl) (by simp) ?_
  refine AllReadyH.cons (by simp only [List.getElem?_toArray, List.getElem?_cons_succ, List.getElem?_cons_zero]; rfl) (fun K hK => ?_) AllReadyH.nil
  refine (if_pos rfl).mpr (wp_copy_run (.tmp 50) (.tmp 53) 35 35 rfl rfl rfl (HC2.out _ _ _ _ _ _ _ (by clear hw1; omega) (by clear hw1; omega) (by clear hw1; omega) (by clear hw1; omega)) ?_)
  refine hK.out _ _ ?_ (fun hHeld => ?_)
  · exact HB.out.2
  clear hK K
  (try simp only [Act.put, List.setIfInBounds_toArray, List.set_cons_zero, List.set_cons_succ])
  refine wpAnyH_done (by kernel_rfl) ?_ _
  refine NoPanic.normal ?_
  clear hw1 hp1 hp2 hp3 htn
  go_wp2
  go_ret
  exact ⟨GC, c4, rfl, HF.out.1, HFIN.out.1, HFIN.out.2.1, HFIN.out.2.2.1, HFIN.out.2.2.2, HF.out.2⟩

set_option maxHeartbeats 1000000 in
set_option maxRecDepth 100000 in
theorem ins_end (base n vb : Nat) (v : Value) (xs x : List Value) (w : World) (hn6 : (n : Int) ≤ 1000000) (hbase : base ≤ w.heap.size)
    (hown : w.ownsRow base 42 4 v n xs) (hv : w.heap[vb]? = some (.cells x.toArray 42 (0, 0))) (hx : x.length = 4) (h1x : ∀ v ∈ x, v.oneCell' = true) :
    Calls Try.prog 48 #[v, .int .i64 (n : Int), .slice (some ⟨vb, 0, none⟩) 1 1] w fun e w' =>
      ∃ v', e = .returned v' ∧ w'.ownsRow base 42 4 v' (n + 1) (xs ++ x) ∧ w.grownBy w' v.ownBlock ∧ (v'.ownBlock = v.ownBlock ∨ ∀ k, v'.ownBlock = some k → w.heap.size ≤ k) := by
  obtain ⟨ti, hti, hts, htz, htb⟩ := infoE
  have hvl : vb < w.heap.size := (Array.getElem?_eq_some_iff.1 hv).1
  have hr : RdN w w.heap.size 4 (some ⟨vb, 0, none⟩) 1 x := ⟨by rw [hx], fun _ => ⟨vb, 0, rfl, hvl, fun j u hu => by
    rw [Nat.zero_add, cell_of_row w vb _ x.toArray 42 (0, 0) hv]; simpa using hu⟩⟩
  have hrun := fun ty => run_appN (P := Try.prog) w base 35 ty 42 ti (ent ⟨#[]⟩ 0 false ⟨#[]⟩) 4 48 Try.underlying35 hti htz hts htb rfl (by omega) hown (c := 1) hr h1x (by unfold maxLen; omega) (by omega) hbase
  have hrun2 : ∃ v' w', (∀ ty, (Builtin.append_ #[35, 35] ty #[v, .slice (some ⟨vb, 0, none⟩) 1 1]).run Try.prog w = .ok v' w') ∧ w'.ownsRow base 42 4 v' (n + 1) (xs ++ x) ∧ w.grownBy w' v.ownBlock ∧ (v'.ownBlock = v.ownBlock ∨ ∀ k, v'.ownBlock = some k → w.heap.size ≤ k) := by
    obtain ⟨v', w', h, r⟩ := hrun 0
    exact ⟨v', w', fun ty => h, r⟩
  obtain ⟨v', w', h1, h2⟩ := hrun2
  have H2 := Lib.hid h2
  clear hrun h2 hr hti hts htz htb hv hx h1x
  have hs1 : ∃ A c, v = .slice A n c ∧ n ≤ c := by
    rcases hown.2 with ⟨rfl, rfl⟩ | ⟨g, cap, cur, rfl, hb, hg, hnc, hcm, hcs, ht⟩
    · exact ⟨none, 0, rfl, Nat.le_refl _⟩
    · exact ⟨_, cap, rfl, hnc⟩
  obtain ⟨A, c, rfl, hnc⟩ := hs1
  clear hown
  by_cases hcn : c = n
  · obtain rfl : n = c := hcn.symm
    clear hcn
    go_enter Try.func48, Try.ntmps48
    go_wp2_with (at_builtin; refine wpList_appz rfl (.tmp 23) (.tmp 24) 35 35 rfl rfl rfl (h1 _) ?_)
    go_ret
    exact ⟨_, rfl, H2.out⟩
  · go_enter Try.func48, Try.ntmps48
    go_wp2_with (at_builtin; refine wpList_appz rfl (.tmp 23) (.tmp 24) 35 35 rfl rfl rfl (h1 _) ?_)
    go_ret
    exact ⟨_, rfl, H2.out⟩
end Go.Proofs.Ytgdkcnpgnmmliab
