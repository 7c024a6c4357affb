/- Walks: the reader's hash. -/
import Derived.Test.YtkdkihacpjhgmaaY1
import Derived.Laws.CopyRow
import Derived.Laws.Externs
namespace Go.Proofs.Ytkdkihacpjhgmaa
set_option linter.unusedSimpArgs false
set_option linter.unusedVariables false
open Go.RowKit

theorem Rx.tch {w w' : World} {B g en : Nat} {K : List Nat} {s : TS} {L : List Nat} (h : Rx w B g K en s) (t : Tch w w' L) (hg : g ∉ L) (hL : ∀ i ∈ L, B ≤ i) : Rx w' B g K en s := by
  obtain ⟨A, c, h1, h2, h3⟩ := h.box
  exact ⟨⟨A, c, h1.keep (t.block g h.g_lt hg), h2.below (t.below (by have := h.lo; have := h.g_lt; omega) hL), h3⟩, h.suf, h.le, h.lt, h.lo, h.few, h.en0, h.er⟩
theorem Try.zeroHash : (Try.prog.info? 53).map (·.zero) = some (some (.agg (bys z32).toArray)) := by kernel_rfl
theorem Try.sizeHash : (Try.prog.info? 53).map (·.size) = some 32 := by kernel_rfl
theorem wp_copy_r {P : Program} {w : World} {o : Oper} {a : Act} {K : Act → World → Prop} {Q : Exit → Act → World → Prop} (d s : Operand) (t t' : TypeId)
    (ho : o.op = .call { callee := .builtin .copy, args := #[d, s], argTypes := #[t, t'] }) {v u v' : Value} {w' : World} (hd : a.eval d = v) (hs : a.eval s = u)
    (hr : (Builtin.copy_ #[t, t'] o.type #[v, u]).run P w = .ok v' w') (h : K (a.put o.dst v') w') : o.wp P a w K Q := by
  unfold Oper.wp execOp
  simp only [ho, resolve, invoke, builtin, Sem.run_bind, Sem.run_pure, Result.andThen_ok, List.map_toArray, List.map_cons, List.map_nil, hd, hs, hr]
  exact h
theorem Tch.of_setRow (w : World) (g : Nat) (cs : Array Value) : Tch w (w.setRow g cs) [g] :=
  ⟨rfl, rfl, rfl, by simp, fun k hk hn => setRow_other w g k cs (fun e => hn (by simp [e]))⟩
theorem run_copy_h (w : World) (B g : Nat) (t ty : TypeId) (A : Option Addr) (n c : Nat) (T : List Nat) (hk : Blk w g t (bys z32).toArray) (hr : Rd w B A n (bys T)) (hn : T.length = n) (h32 : n ≤ 32) :
    ∃ w', (Builtin.copy_ #[27, 27] ty #[.slice (some ⟨g, 0, none⟩) 32 32, .slice A n c]).run Try.prog w = .ok (goInt n) w' ∧ Blk w' g t (bys (T ++ List.replicate (32 - n) 0)).toArray ∧ Tch w w' [g] := by
  obtain ⟨i0, hi, hz0, hz1, hz2⟩ := info_parts Try.info5
  have hu := Try.underlying27
  rcases Nat.eq_zero_or_pos n with h0 | h0
  · subst h0
    have hT : T = [] := List.eq_nil_of_length_eq_zero hn
    subst hT
    refine ⟨w, ?_, hk, Tch.refl _ _⟩
    cases A <;> simp [Builtin.copy_, run_underlying hu, Builtin.lenOf, Builtin.firstCells, sizeOf, typeInfo, hi, hz1, loadCells, loadCellsFrom, storeCells]
  · obtain ⟨ga, oa, rfl, hga, hcell⟩ := hr.2 h0
    have hl := run_loadCells_list (P := Try.prog) (w := w) ⟨ga, oa, none⟩ (bys T) (fun j v hv => by rw [Addr.add_lit]; exact hcell j v hv)
    have hst := run_storeCells_at Try.prog g 0 t (bys T) 0 (bys z32).toArray w hk (by simp [bys_len, z32]; omega) (bys_one T)
    refine ⟨w.setRow g (bys (T ++ List.replicate (32 - n) 0)).toArray, ?_, setRow_heap w g _ _ t _ hk, Tch.of_setRow w g _⟩
    have hmin : Nat.min n 32 = n := Nat.min_eq_left h32
    have e : (bys z32).toArray.toList.take (0 + 0) ++ bys T ++ (bys z32).toArray.toList.drop (0 + 0 + (bys T).length) = bys (T ++ List.replicate (32 - n) 0) := by
      rw [bys_len, hn, bys_app]
      have e3 : ∀ m : Nat, (bys (List.replicate m 0)) = List.replicate m (Value.int .u8 ((0 : Nat) : Int)) := fun m => by simp [bys]
      rw [show z32 = List.replicate 32 0 from rfl, e3, e3]
      simp only [Nat.zero_add, List.toList_toArray, List.take_zero, List.nil_append, List.drop_replicate]
    rw [e] at hst
    have hbl : (bys T).length = n := by rw [bys_len]; exact hn
    rw [hbl] at hl
    simp [Builtin.copy_, run_underlying hu, Builtin.lenOf, Builtin.firstCells, sizeOf, typeInfo, hi, hz1, hmin, hl, hst]

theorem results_arr1 {P : Program} {fn : Func} {p : Tmp} {ty : TypeId} (h : fn.results = #[.cell p ty]) (tmps : Array Value) (w : World) (b : Nat) (cs : List Value) (d : TypeDesc)
    (hp : tmps.getD p undef = .pointer (some ⟨b, 0, none⟩)) (hc : w.rangeAt b 0 cs) (hu : P.underlying ty = some d) (hd : d.isRow = true) (hi : (P.info? ty).map (·.size) = some cs.length) :
    (results fn tmps).run P w = .ok (.agg cs.toArray) w := by
  have hp' : tmps[p]?.getD undef = .pointer (some ⟨b, 0, none⟩) := by rw [← hp]; simp [Array.getD_eq_getD_getElem?]
  simp only [results, h]
  simp [Sem.run_bind, hp', asAddr, run_loadVar_mid w b 0 ty cs d hc hu hd hi]
theorem rH_len (s : TS) : (rH s).1.length = 32 := by
  have h : (tk s 32).1.length ≤ 32 := by
    unfold tk
    split
    · simp
    · split
      · simp
      · simp only [List.length_take]; omega
  unfold rH
  rw [List.length_append, List.length_replicate]
  omega
theorem tk_le (s : TS) (k : Nat) : (tk s k).1.length ≤ k := by
  unfold tk
  split
  · simp
  · split
    · simp
    · simp only [List.length_take]; omega

set_option maxHeartbeats 2000000 in
set_option maxRecDepth 100000 in
theorem hash_any (w : World) (B g en : Nat) (bs : List Nat) (s : TS) (h : Rx w B g bs en s) :
    Calls Try.prog 51 #[.pointer (some ⟨g, 0, none⟩)] w fun ee w' => ee = .returned (.agg (bys (rH s).1).toArray) ∧ Rx w' B g bs en (rH s).2 ∧ Tch w w' [g] := by
  have HTK := Lib.hid (fun W (hW : Rx W B g bs en s) => take_any W B g en bs s hW 32 (by omega))
  have hle := tk_le s 32
  have hHL := rH_len s
  have HRH : Hid (rH s = ((tk s 32).1 ++ List.replicate (32 - (tk s 32).1.length) 0, (tk s 32).2)) := Lib.hid rfl
  generalize rH s = R at *
  generalize tk s 32 = T at *
  obtain ⟨W1, e1⟩ : ∃ W1, W1 = w.alloc (.cells (bys z32).toArray 53) := ⟨_, rfl⟩
  obtain ⟨W2, e2⟩ : ∃ W2, W2 = W1.alloc (.cells (bys z32).toArray 53) := ⟨_, rfl⟩
  have b1 : Below w.heap.size w W1 := by rw [e1]; exact (Below.refl _ _).alloc (Nat.le_refl _) _
  have b2 : Below W1.heap.size W1 W2 := by rw [e2]; exact (Below.refl _ _).alloc (Nat.le_refl _) _
  have s1 : W1.heap.size = w.heap.size + 1 := by rw [e1]; simp
  have s2 : W2.heap.size = w.heap.size + 2 := by rw [e2]; simp; omega
  have k1 : Blk W2 w.heap.size 53 (bys z32).toArray := by rw [e2]; refine Blk.alloc ?_ _; rw [e1]; exact Blk.new _ _ _
  have k2 : Blk W2 (w.heap.size + 1) 53 (bys z32).toArray := by rw [← s1, e2]; exact Blk.new _ _ _
  have b12 : Below w.heap.size w W2 := b1.trans (b2.mono b1.size)
  have HB := Lib.hid b12
  have HK1 := Lib.hid k1
  have HK2 := Lib.hid k2
  have HG := Lib.hid h.g_lt
  have H2 := Lib.hid (HTK.out W2.drew (h.below (Below.drew' b12)))
  have HLO := Lib.hid h.lo
  have hE : W2 = (w.alloc (.cells (bys z32).toArray 53)).alloc (.cells (bys z32).toArray 53) := by rw [e2, e1]
  have HE2 := Lib.hid hE
  have HSZ2 := Lib.hid s2
  have HLE := Lib.hid hle
  clear e1 e2 b1 b2 s1 s2 k1 k2 b12 h HTK hE hle
  go_enter Try.func51, Try.ntmps51
  go_upto_region 2 with (first | (refine wpList_of_wp rfl fun K hK => wp_alloc_arr 53 rfl (bys z32).toArray Try.zeroHash (hK _ _ ?_)))
  rw [← HE2.out]
  refine wp_region_noPanic ?_
  refine wp_region_held_drew (S := (fun _ => True)) (by kernel_rfl) (trivial) (fun hHeld => ?_)
  refine wpAnyH_take (i := 0) (v := ?_) (by simp only [List.getElem?_toArray, List.getElem?_cons_succ, List.getElem?_cons_zero]; rfl) (by kernel_rfl) (by kernel_rfl) (by kernel_rfl) (fun _ _ _ h => h) (Or.inl ⟨by rfl, ?_⟩) (by assumption) ?_
  rotate_left
  · (intro w hSw; (try dsimp only at hSw); go_simp; (try with_reducible rfl))
  (try simp only [Act.put, List.setIfInBounds_toArray, List.set_cons_zero, List.set_cons_succ])
  refine wpAnyH_take (i := 1) (v := ?_) (by simp only [List.getElem?_toArray, List.getElem?_cons_succ, List.getElem?_cons_zero]; rfl) (by kernel_rfl) (by kernel_rfl) (by kernel_rfl) (fun _ _ _ h => h) (Or.inl ⟨by rfl, ?_⟩) (by assumption) ?_
  rotate_left
  · (intro w hSw; (try dsimp only at hSw); go_simp; (try with_reducible rfl))
  (try simp only [Act.put, List.setIfInBounds_toArray, List.set_cons_zero, List.set_cons_succ])
  refine wpAnyH_ready (rs := [2]) (by kernel_rfl) (by simp) ?_
  refine AllReadyH.cons (by simp only [List.getElem?_toArray, List.getElem?_cons_succ, List.getElem?_cons_zero]; rfl) (fun K hK => ?_) AllReadyH.nil
  go_simp
  refine H2.out.mono ?_
  rintro ee w3 ⟨A, c, rfl, r3, h3, t3⟩
  have hk3 : Blk w3 (w.heap.size + 1) 53 (bys z32).toArray := (t3.block _ (by show w.heap.size + 1 < W2.heap.size; have := HSZ2.out; omega) (by simp; have := HG.out; omega)).trans HK2.out
  have hk1 : Blk w3 w.heap.size 53 (bys z32).toArray := (t3.block _ (by show w.heap.size < W2.heap.size; have := HSZ2.out; omega) (by simp; have := HG.out; omega)).trans HK1.out
  obtain ⟨w4, hrun, k4, t4⟩ := run_copy_h w3 B (w.heap.size + 1) 53 3 A T.1.length c T.1 hk3 r3 rfl HLE.out
  have hk14 : Blk w4 w.heap.size 53 (bys z32).toArray := (t4.block _ hk1.lt (by simp)).trans hk1
  have T3 : Hid (Tch w w3 [g]) := Lib.hid ((Tch.of_below [g] (Below.drew' HB.out)).trans t3 (fun i hi => .inl hi))
  have HR4 : Hid (Rx w4 B g bs en T.2) := Lib.hid (h3.tch t4 (by simp; have := HG.out; omega) (by simp; have := HLO.out; have := HG.out; omega))
  have T4 : Hid (Tch w w4 [g]) := Lib.hid (T3.out.trans t4 (by simp))
  have HRUN := Lib.hid hrun
  refine hK.out _ _ ?_ (fun hHeld => ?_)
  · trivial
  clear hK K
  (try simp only [Act.put, List.setIfInBounds_toArray, List.set_cons_zero, List.set_cons_succ])
  refine wpAnyH_ready (rs := [3]) (by kernel_rfl) (by simp) ?_
  refine AllReadyH.cons (by simp only [List.getElem?_toArray, List.getElem?_cons_succ, List.getElem?_cons_zero]; rfl) (fun K hK => ?_) AllReadyH.nil
  refine (if_pos rfl).mpr (wp_copy_r (.tmp 4) (.tmp 6) 27 27 rfl rfl rfl HRUN.out ?_)
  refine hK.out _ _ ?_ (fun hHeld => ?_)
  · trivial
  clear hK K
  (try simp only [Act.put, List.setIfInBounds_toArray, List.set_cons_zero, List.set_cons_succ])
  refine wpAnyH_done (by kernel_rfl) ?_ _
  refine NoPanic.normal ?_
  have hv : R.1 = T.1 ++ List.replicate (32 - T.1.length) 0 := by rw [HRH.out]
  rw [← hv] at k4
  have hRl : (bys R.1).length = 32 := by rw [bys_len]; exact hHL
  have HRG := Lib.hid (show w4.rangeAt (w.heap.size + 1) 0 (bys R.1) from k4.range)
  have HTH := Lib.hid (show w4.there w.heap.size 0 (bys R.1).toArray.size by have := hk14.there; simpa [hRl, bys_len, z32] using this)
  have HSA := Lib.hid (show (Try.prog.info? 53).map (·.size) = some (bys R.1).length by rw [hRl]; exact Try.sizeHash)
  have HFI : Hid (Rx (w4.setCells w.heap.size 0 (bys R.1)) B g bs en R.2 ∧ Tch w (w4.setCells w.heap.size 0 (bys R.1)) [g]) := Lib.hid (by
    have tq : Tch w4 (w4.setCells w.heap.size 0 (bys R.1)) [w.heap.size] :=
      ⟨(rest_setCells _ _ _ _).1, (rest_setCells _ _ _ _).2.1, (rest_setCells _ _ _ _).2.2, by rw [size_setCells]; exact Nat.le_refl _, fun k hk hn => heap_setCells _ _ _ _ k (by simpa using hn)⟩
    refine ⟨?_, T4.out.trans tq (by simp)⟩
    have hR2 : R.2 = T.2 := by rw [HRH.out]
    rw [hR2]
    exact HR4.out.tch tq (by simp; have := HG.out; omega) (by simp; have := HLO.out; have := HG.out; omega))
  clear hHeld hk3 hk1 hrun k4 t4 hk14 r3 h3 t3 hv
  go_wp2_with (first
    | (refine wpList_load_mid rfl 53 (.tmp 3) rfl (w.heap.size + 1) 0 rfl (bys R.1) _ HRG.out Try.underlying53 rfl HSA.out ?_)
    | (refine wpList_store_mid rfl 53 (.tmp 2) (.tmp 8) rfl w.heap.size 0 (bys R.1).toArray rfl rfl HTH.out (by simpa using HSA.out) (all_oneCell_toArray (bys_one _)) ?_))
  exact bodyPost_ret (results_arr1 rfl _ _ w.heap.size (bys R.1) _ rfl (World.rangeAt_setCells_same _ _ _ _ (by simpa using HTH.out)) Try.underlying53 rfl HSA.out) rfl ⟨rfl, HFI.out⟩
end Go.Proofs.Ytkdkihacpjhgmaa
