/- Reading a header. -/
import Derived.Test.YtkokbpifjpmhlaaDoorHP
namespace Go.Proofs.YtkokbpifjpmhlaaDoor
set_option linter.unusedSimpArgs false
set_option linter.unusedVariables false
open Go.RowKit

theorem ZHD_len : ZHD.length = 68 := by simp [ZHD, hdC, hdT, bys_len, z32]
theorem hdC_one {v : Int} {p r : List Nat} {t b n : Nat} : ∀ u ∈ hdC v p r t b n, u.oneCell' = true := by
  intro u hu
  simp only [hdC, hdT, List.mem_cons, List.mem_append, List.not_mem_nil, or_false] at hu
  rcases hu with rfl | hu | hu | rfl | rfl | rfl
  · rfl
  · exact bys_one _ u hu
  · exact bys_one _ u hu
  · rfl
  · rfl
  · rfl

theorem wp_build_some {P : Program} {o : Oper} {a : Act} {w : World} {K : Act → World → Prop} {Q : Exit → Act → World → Prop} (t : TypeId) (parts : Array (Nat × Operand)) (ho : o.op = .build t parts) (C : Array Value)
    (hf : P.built t (parts.map fun (i, x) => (i, a.eval x)).toList = some C) (h : K (a.put o.dst (.agg C)) w) : o.wp P a w K Q :=
  wp_build t parts ho (by rw [hf]; rfl) (by rw [hf]; exact h)

theorem yieldsIf_build {P : Program} {ops : Array Oper} {S : World → Prop} {op : Oper} {a : Act} (hw : Region.wanted op (yielded ops a.tmps) = true) (t : TypeId) (parts : Array (Nat × Operand)) (ho : op.op = .build t parts) (C : Array Value)
    (hg : P.built t (parts.toList.map fun x => (x.1, a.eval x.2)) = some C) : YieldsIf P ops S op (.agg C) a :=
  .inl ⟨hw, fun w _ => by
    have hf : P.built t (parts.map fun (i, x) => (i, a.eval x)).toList = some C := by rw [Array.toList_map]; exact hg
    unfold execOp
    simp only [ho, Sem.run_bind, run_build w t _ C hf, Result.andThen_ok, Sem.run_pure]⟩

theorem rd_part {w : World} {B g off n : Nat} {bs x q y : List Nat} (h : Rd w B (some ⟨g, off, none⟩) n (bys bs)) (e : bs = x ++ q ++ y) (k l : Nat) (hx : x.length = l) (hq : q.length = k) : Rd w B (some ⟨g, off + l, none⟩) k (bys q) := by
  refine ⟨by rw [bys_len]; exact hq, fun hk => ?_⟩
  have hn : 0 < n := by
    have h1 := h.1
    rw [bys_len, e] at h1
    simp at h1
    omega
  obtain ⟨g', off', eA, hlt, hc⟩ := h.2 hn
  injection eA with eA
  injection eA with e1 e2
  subst e1; subst e2
  refine ⟨g, off + l, rfl, hlt, fun j u hu => ?_⟩
  have hj : j < (bys q).length := (List.getElem?_eq_some_iff.1 hu).1
  have lx : (bys x).length = l := by rw [bys_len]; exact hx
  have := hc (l + j) u (by
    rw [e, bys_app, bys_app, List.append_assoc, List.getElem?_append_right (by omega), lx, Nat.add_sub_cancel_left, List.getElem?_append_left hj]
    exact hu)
  rw [← Nat.add_assoc] at this
  exact this
theorem rd_range {w : World} {B g off n : Nat} {xs : List Value} (h : Rd w B (some ⟨g, off, none⟩) n xs) (hn : 0 < n) : w.rangeAt g off xs := by
  obtain ⟨g', off', eA, hlt, hc⟩ := h.2 hn
  injection eA with eA
  injection eA with e1 e2
  subst e1; subst e2
  exact hc

set_option maxHeartbeats 2000000 in
set_option maxRecDepth 100000 in
theorem parse_short (A : Option Addr) (n c : Nat) (w : World) (h : n < 80) :
    Calls Tryd.prog 10 #[.slice A n c] w fun e w' => e = .returned (.tuple #[.agg ZHD.toArray, .int .i64 8]) ∧ Below w.heap.size w w' := by
  have hlt : (n : Int) < 80 := by omega
  have HSZ := Lib.hid (show (Tryd.prog.info? 26).map (·.size) = some ZHD.toArray.size by rw [List.size_toArray, ZHD_len]; exact Tryd.size26)
  have HSZL := Lib.hid (show (Tryd.prog.info? 26).map (·.size) = some ZHD.length by rw [ZHD_len]; exact Tryd.size26)
  have hB := (Below.refl w.heap.size w).alloc (Nat.le_refl _) (.cells ZHD.toArray 26)
  have kb : Blk (w.alloc (.cells ZHD.toArray 26)) w.heap.size 26 ZHD.toArray := Blk.new _ _ _
  have HTE := Lib.hid kb.there
  have HB7 := Lib.hid (Below.setCells' hB w.heap.size 0 (Nat.le_refl _) ZHD)
  have HBU := Lib.hid (built_fill [])
  clear hB kb
  go_enter Tryd.func10, Tryd.ntmps10
  go_upto_region 1 with (first | (refine wpList_of_wp rfl fun K hK => wp_alloc_arr 26 rfl ZHD.toArray Tryd.zero26 (hK _ _ ?_)))
  go_wp2_with (first
    | (refine wpList_of_wp rfl fun K hK => wp_build_some 26 _ rfl ZHD.toArray (by simp [HBU.out, Instr.fill]) (hK _ _ ?_))
    | (refine wpList_store_mid rfl 26 (.tmp 2) (.tmp 7) rfl w.heap.size 0 ZHD.toArray rfl rfl HTE.out HSZ.out (all_oneCell_toArray hdC_one) ?_))
  exact bodyPost_ret (results_arr_tmp rfl _ _ w.heap.size ZHD _ rfl (World.rangeAt_setCells_same _ _ _ _ (by simpa using HTE.out)) Tryd.underlying26 rfl HSZL.out) rfl ⟨rfl, HB7.out⟩

set_option maxHeartbeats 4000000 in
set_option maxRecDepth 100000 in
theorem parse_any (A : Option Addr) (n c : Nat) (q0 p r q1 q2 q3 more : List Nat) (w : World) (hr : Rd w w.heap.size A n (bys (q0 ++ p ++ r ++ q1 ++ q2 ++ q3 ++ more)))
    (h0 : q0.length = 4) (hp : p.length = 32) (hq : r.length = 32) (h1 : q1.length = 4) (h2 : q2.length = 4) (h3 : q3.length = 4)
    (b0 : ∀ c ∈ q0, c < 256) (b1 : ∀ c ∈ q1, c < 256) (b2 : ∀ c ∈ q2, c < 256) (b3 : ∀ c ∈ q3, c < 256) (hc : n ≤ c) :
    Calls Tryd.prog 10 #[.slice A n c] w fun e w' => e = .returned (.tuple #[.agg (hdC (IntKind.i32.wrap (M.lv q0 4 : Int)) p r (M.lv q1 4) (M.lv q2 4) (M.lv q3 4)).toArray, .int .i64 0]) ∧ Below w.heap.size w w' := by
  have hn : 80 ≤ n := by have := hr.1; simp [bys_len] at this; omega
  obtain ⟨g, off, _, rfl, hg, _, _⟩ := hr.at_ (k := 0) (by omega)
  obtain ⟨w1, e1⟩ : ∃ w1, w1 = w.alloc (.cells ZHD.toArray 26) := ⟨_, rfl⟩
  have hB1 : Below w.heap.size w w1 := by rw [e1]; exact (Below.refl w.heap.size w).alloc (Nat.le_refl _) _
  have kb : Blk w1 w.heap.size 26 ZHD.toArray := by rw [e1]; exact Blk.new _ _ _
  have HRD : Hid (∀ wx, Below w.heap.size w wx → Rd wx w.heap.size (some ⟨g, off, none⟩) n (bys (q0 ++ p ++ r ++ q1 ++ q2 ++ q3 ++ more))) := Lib.hid fun wx hb => hr.below hb
  have R0 : Hid (∀ wx, Below w.heap.size w wx → Rd wx w.heap.size (some ⟨g, off, none⟩) 4 (bys q0)) := Lib.hid fun wx hb => rd_part (HRD.out wx hb) (x := []) (q := q0) (y := p ++ r ++ q1 ++ q2 ++ q3 ++ more) (by simp) 4 0 rfl h0
  have RP : Hid (∀ wx, Below w.heap.size w wx → wx.rangeAt g (off + 4) (bys p)) := Lib.hid fun wx hb => rd_range (rd_part (HRD.out wx hb) (x := q0) (q := p) (y := r ++ q1 ++ q2 ++ q3 ++ more) (by simp) 32 4 h0 hp) (by omega)
  have RR : Hid (∀ wx, Below w.heap.size w wx → wx.rangeAt g (off + 36) (bys r)) := Lib.hid fun wx hb => rd_range (rd_part (HRD.out wx hb) (x := q0 ++ p) (q := r) (y := q1 ++ q2 ++ q3 ++ more) (by simp) 32 36 (by simp; omega) hq) (by omega)
  have R1 : Hid (∀ wx, Below w.heap.size w wx → Rd wx w.heap.size (some ⟨g, off + 68, none⟩) 4 (bys q1)) := Lib.hid fun wx hb => rd_part (HRD.out wx hb) (x := q0 ++ p ++ r) (q := q1) (y := q2 ++ q3 ++ more) (by simp) 4 68 (by simp; omega) h1
  have R2 : Hid (∀ wx, Below w.heap.size w wx → Rd wx w.heap.size (some ⟨g, off + 72, none⟩) 4 (bys q2)) := Lib.hid fun wx hb => rd_part (HRD.out wx hb) (x := q0 ++ p ++ r ++ q1) (q := q2) (y := q3 ++ more) (by simp) 4 72 (by simp; omega) h2
  have R3 : Hid (∀ wx, Below w.heap.size w wx → Rd wx w.heap.size (some ⟨g, off + 76, none⟩) 4 (bys q3)) := Lib.hid fun wx hb => rd_part (HRD.out wx hb) (x := q0 ++ p ++ r ++ q1 ++ q2) (q := q3) (y := more) (by simp) 4 76 (by simp; omega) h3
  have B0 := Lib.hid b0
  have B1 := Lib.hid b1
  have B2 := Lib.hid b2
  have B3 := Lib.hid b3
  have HBU := Lib.hid (built_hd (IntKind.i32.wrap (M.lv q0 4 : Int)) p r (M.lv q1 4) (M.lv q2 4) (M.lv q3 4) hp hq)
  have HCL : (hdC (IntKind.i32.wrap (M.lv q0 4 : Int)) p r (M.lv q1 4) (M.lv q2 4) (M.lv q3 4)).length = 68 := by simp [hdC, hdT, bys_len, hp, hq]
  have HSP := Lib.hid (show (Tryd.prog.info? 23).map (·.size) = some (bys p).length by rw [bys_len, hp]; exact Tryd.size23)
  have HSR := Lib.hid (show (Tryd.prog.info? 23).map (·.size) = some (bys r).length by rw [bys_len, hq]; exact Tryd.size23)
  have HSC := Lib.hid (show (Tryd.prog.info? 26).map (·.size) = some (hdC (IntKind.i32.wrap (M.lv q0 4 : Int)) p r (M.lv q1 4) (M.lv q2 4) (M.lv q3 4)).length by rw [HCL]; exact Tryd.size26)
  have HTE := Lib.hid (show w1.drew.there w.heap.size 0 (hdC (IntKind.i32.wrap (M.lv q0 4 : Int)) p r (M.lv q1 4) (M.lv q2 4) (M.lv q3 4)).toArray.size by
    have := kb.drew.there
    rw [show ZHD.toArray.size = 68 by rw [List.size_toArray, ZHD_len]] at this
    rw [show (hdC (IntKind.i32.wrap (M.lv q0 4 : Int)) p r (M.lv q1 4) (M.lv q2 4) (M.lv q3 4)).toArray.size = 68 by simpa using HCL]; exact this)
  have HB7 := Lib.hid (Below.setCells' (Below.drew' hB1) w.heap.size 0 (Nat.le_refl _) (hdC (IntKind.i32.wrap (M.lv q0 4 : Int)) p r (M.lv q1 4) (M.lv q2 4) (M.lv q3 4)))
  have hl4 := lv4 q0 b0
  have HE := Lib.hid e1
  have HB1 := Lib.hid hB1
  clear hr hp hq h0 h1 h2 h3 b0 b1 b2 b3 e1 hB1 kb hg HRD HCL
  have n80 : ¬ (n : Int) < 80 := by omega
  have c4 : 4 ≤ c := by omega
  have c36 : 36 ≤ c := by omega
  have c68 : 68 ≤ c := by omega
  have c72 : 72 ≤ c := by omega
  have c76 : 76 ≤ c := by omega
  have c80 : 80 ≤ c := by omega
  have d0 : ¬ c = 0 := by omega
  have d4 : ¬ c = 4 := by omega
  have d36 : ¬ c = 36 := by omega
  have d68 : ¬ c = 68 := by omega
  have d72 : ¬ c = 72 := by omega
  have d76 : ¬ c = 76 := by omega
  obtain ⟨i5, hi5, hz0, hz1, hz2⟩ := info_parts Tryd.info5
  have hs0 : ∀ wx : World, _ := fun wx => run_slice_lh (P := Tryd.prog) wx 27 5 i5 Tryd.underlying27 hi5 hz1 (some ⟨g, off, none⟩) n c 0 4 (by omega) (by omega) .i64 .i64 0 4 rfl rfl
  have hs1 : ∀ wx : World, _ := fun wx => run_slice_lh (P := Tryd.prog) wx 27 5 i5 Tryd.underlying27 hi5 hz1 (some ⟨g, off, none⟩) n c 4 36 (by omega) (by omega) .i64 .i64 4 36 rfl rfl
  have hs2 : ∀ wx : World, _ := fun wx => run_slice_lh (P := Tryd.prog) wx 27 5 i5 Tryd.underlying27 hi5 hz1 (some ⟨g, off, none⟩) n c 36 68 (by omega) (by omega) .i64 .i64 36 68 rfl rfl
  have hs3 : ∀ wx : World, _ := fun wx => run_slice_lh (P := Tryd.prog) wx 27 5 i5 Tryd.underlying27 hi5 hz1 (some ⟨g, off, none⟩) n c 68 72 (by omega) (by omega) .i64 .i64 68 72 rfl rfl
  have hs4 : ∀ wx : World, _ := fun wx => run_slice_lh (P := Tryd.prog) wx 27 5 i5 Tryd.underlying27 hi5 hz1 (some ⟨g, off, none⟩) n c 72 76 (by omega) (by omega) .i64 .i64 72 76 rfl rfl
  have hs5 : ∀ wx : World, _ := fun wx => run_slice_lh (P := Tryd.prog) wx 27 5 i5 Tryd.underlying27 hi5 hz1 (some ⟨g, off, none⟩) n c 76 80 (by omega) (by omega) .i64 .i64 76 80 rfl rfl
  simp only [d0, d4, d36, d68, d72, d76, if_false, Option.map_some, Addr.add_lit, Nat.add_zero, Nat.sub_zero, Nat.reduceSub] at hs0 hs1 hs2 hs3 hs4 hs5
  have ha1 : ∀ wx : World, _ := fun wx => run_arrayAt (P := Tryd.prog) wx 23 5 32 (some ⟨g, off + 4, none⟩) 32 (c - 4) Tryd.underlying23 (Nat.le_refl _)
  have ha2 : ∀ wx : World, _ := fun wx => run_arrayAt (P := Tryd.prog) wx 23 5 32 (some ⟨g, off + 36, none⟩) 32 (c - 36) Tryd.underlying23 (Nat.le_refl _)
  go_enter Tryd.func10, Tryd.ntmps10
  go_upto_region 3 with (first | (refine wpList_of_wp rfl fun K hK => wp_alloc_arr 26 rfl ZHD.toArray Tryd.zero26 (hK _ _ ?_)))
  rw [← HE.out]
  refine wp_region_noPanic ?_
  refine wp_region_held_drew (S := (fun wx => Below w.heap.size w wx)) (by kernel_rfl) (Below.drew' HB1.out) (fun hHeld => ?_)
  refine wpAnyH_take (i := 0) (v := ?_) (by simp only [List.getElem?_toArray, List.getElem?_cons_succ, List.getElem?_cons_zero]; rfl) (by kernel_rfl) (by kernel_rfl) (by kernel_rfl) (fun _ _ _ h => h) (Or.inl ⟨by rfl, ?_⟩) (by assumption) ?_
  rotate_left
  · (intro w hSw; (try dsimp only at hSw); go_simp; (try with_reducible rfl))
  (try simp only [Act.put, List.setIfInBounds_toArray, List.set_cons_zero, List.set_cons_succ])
  refine wpAnyH_take (i := 1) (v := ?_) (by simp only [List.getElem?_toArray, List.getElem?_cons_succ, List.getElem?_cons_zero]; rfl) (by kernel_rfl) (by kernel_rfl) (by kernel_rfl) (fun _ _ _ h => h) (Or.inl ⟨by rfl, ?_⟩) (by assumption) ?_
  rotate_left
  · (intro w hSw; (try dsimp only at hSw); go_simp; (try with_reducible rfl))
  (try simp only [Act.put, List.setIfInBounds_toArray, List.set_cons_zero, List.set_cons_succ])
  refine wpAnyH_take (i := 4) (v := ?_) (by simp only [List.getElem?_toArray, List.getElem?_cons_succ, List.getElem?_cons_zero]; rfl) (by kernel_rfl) (by kernel_rfl) (by kernel_rfl) (fun _ _ _ h => h) (Or.inl ⟨by rfl, ?_⟩) (by assumption) ?_
  rotate_left
  · (intro w hSw; (try dsimp only at hSw); go_simp; (try with_reducible rfl))
  (try simp only [Act.put, List.setIfInBounds_toArray, List.set_cons_zero, List.set_cons_succ])
  refine wpAnyH_take (i := 5) (v := ?_) (by simp only [List.getElem?_toArray, List.getElem?_cons_succ, List.getElem?_cons_zero]; rfl) (by kernel_rfl) (by kernel_rfl) (by kernel_rfl) (fun _ _ _ h => h) (Or.inl ⟨by rfl, ?_⟩) (by assumption) ?_
  rotate_left
  · (intro w hSw; (try dsimp only at hSw); go_simp; (try with_reducible rfl))
  (try simp only [Act.put, List.setIfInBounds_toArray, List.set_cons_zero, List.set_cons_succ])
  refine wpAnyH_take (i := 6) (v := ?_) (by simp only [List.getElem?_toArray, List.getElem?_cons_succ, List.getElem?_cons_zero]; rfl) (by kernel_rfl) (by kernel_rfl) (by kernel_rfl) (fun _ _ _ h => h) (Or.inl ⟨by rfl, ?_⟩) (by assumption) ?_
  rotate_left
  · (intro w hSw; (try dsimp only at hSw); go_simp; (try with_reducible rfl))
  (try simp only [Act.put, List.setIfInBounds_toArray, List.set_cons_zero, List.set_cons_succ])
  refine wpAnyH_take (i := 8) (v := ?_) (by simp only [List.getElem?_toArray, List.getElem?_cons_succ, List.getElem?_cons_zero]; rfl) (by kernel_rfl) (by kernel_rfl) (by kernel_rfl) (fun _ _ _ h => h) (Or.inl ⟨by rfl, ?_⟩) (by assumption) ?_
  rotate_left
  · (intro w hSw; (try dsimp only at hSw); go_simp; (try with_reducible rfl))
  (try simp only [Act.put, List.setIfInBounds_toArray, List.set_cons_zero, List.set_cons_succ])
  refine wpAnyH_take (i := 9) (v := ?_) (by simp only [List.getElem?_toArray, List.getElem?_cons_succ, List.getElem?_cons_zero]; rfl) (by kernel_rfl) (by kernel_rfl) (by kernel_rfl) (fun _ _ _ h => h) (Or.inl ⟨by rfl, ?_⟩) (by assumption) ?_
  rotate_left
  · (intro w hSw; (try dsimp only at hSw); go_simp; (try with_reducible rfl))
  (try simp only [Act.put, List.setIfInBounds_toArray, List.set_cons_zero, List.set_cons_succ])
  refine wpAnyH_take (i := 10) (v := ?_) (by simp only [List.getElem?_toArray, List.getElem?_cons_succ, List.getElem?_cons_zero]; rfl) (by kernel_rfl) (by kernel_rfl) (by kernel_rfl) (fun _ _ _ h => h) (Or.inl ⟨by rfl, ?_⟩) (by assumption) ?_
  rotate_left
  · (intro w hSw; (try dsimp only at hSw); go_simp; (try with_reducible rfl))
  (try simp only [Act.put, List.setIfInBounds_toArray, List.set_cons_zero, List.set_cons_succ])
  refine wpAnyH_take (i := 12) (v := ?_) (by simp only [List.getElem?_toArray, List.getElem?_cons_succ, List.getElem?_cons_zero]; rfl) (by kernel_rfl) (by kernel_rfl) (by kernel_rfl) (fun _ _ _ h => h) (Or.inl ⟨by rfl, ?_⟩) (by assumption) ?_
  rotate_left
  · (intro w hSw; (try dsimp only at hSw); go_simp; (try with_reducible rfl))
  (try simp only [Act.put, List.setIfInBounds_toArray, List.set_cons_zero, List.set_cons_succ])
  refine wpAnyH_take (i := 13) (v := ?_) (by simp only [List.getElem?_toArray, List.getElem?_cons_succ, List.getElem?_cons_zero]; rfl) (by kernel_rfl) (by kernel_rfl) (by kernel_rfl) (fun _ _ _ h => h) (Or.inl ⟨by rfl, ?_⟩) (by assumption) ?_
  rotate_left
  · (intro w hSw; (try dsimp only at hSw); go_simp; (try with_reducible rfl))
  (try simp only [Act.put, List.setIfInBounds_toArray, List.set_cons_zero, List.set_cons_succ])
  refine wpAnyH_take (i := 15) (v := ?_) (by simp only [List.getElem?_toArray, List.getElem?_cons_succ, List.getElem?_cons_zero]; rfl) (by kernel_rfl) (by kernel_rfl) (by kernel_rfl) (fun _ _ _ h => h) (Or.inl ⟨by rfl, ?_⟩) (by assumption) ?_
  rotate_left
  · (intro w hSw; (try dsimp only at hSw); go_simp; (try with_reducible rfl))
  (try simp only [Act.put, List.setIfInBounds_toArray, List.set_cons_zero, List.set_cons_succ])
  refine wpAnyH_take (i := 16) (v := ?_) (by simp only [List.getElem?_toArray, List.getElem?_cons_succ, List.getElem?_cons_zero]; rfl) (by kernel_rfl) (by kernel_rfl) (by kernel_rfl) (fun _ _ _ h => h) (Or.inl ⟨by rfl, ?_⟩) (by assumption) ?_
  rotate_left
  · (intro w hSw; (try dsimp only at hSw); go_simp; (try with_reducible rfl))
  (try simp only [Act.put, List.setIfInBounds_toArray, List.set_cons_zero, List.set_cons_succ])
  refine wpAnyH_take (i := 18) (v := ?_) (by simp only [List.getElem?_toArray, List.getElem?_cons_succ, List.getElem?_cons_zero]; rfl) (by kernel_rfl) (by kernel_rfl) (by kernel_rfl) (fun _ _ _ h => h) (Or.inl ⟨by rfl, ?_⟩) (by assumption) ?_
  rotate_left
  · (intro w hSw; (try dsimp only at hSw); go_simp; (try with_reducible rfl))
  (try simp only [Act.put, List.setIfInBounds_toArray, List.set_cons_zero, List.set_cons_succ])
  refine wpAnyH_take (i := 19) (v := ?_) (by simp only [List.getElem?_toArray, List.getElem?_cons_succ, List.getElem?_cons_zero]; rfl) (by kernel_rfl) (by kernel_rfl) (by kernel_rfl) (fun _ _ _ h => h) (Or.inl ⟨by rfl, ?_⟩) (by assumption) ?_
  rotate_left
  · (intro w hSw; (try dsimp only at hSw); go_simp; (try with_reducible rfl))
  (try simp only [Act.put, List.setIfInBounds_toArray, List.set_cons_zero, List.set_cons_succ])
  refine wpAnyH_take (i := 7) (v := .agg (bys p).toArray) (by simp only [List.getElem?_toArray, List.getElem?_cons_succ, List.getElem?_cons_zero]; rfl) (by kernel_rfl) (by kernel_rfl) (by kernel_rfl) (fun _ _ _ h => h) (yieldsIf_load_mid (by rfl) 23 (.tmp 14) rfl g (off + 4) rfl (bys p) _ (fun wx hx => RP.out wx hx) Tryd.underlying23 rfl (HSP.out)) (by assumption) ?_
  (try simp only [Act.put, List.setIfInBounds_toArray, List.set_cons_zero, List.set_cons_succ])
  refine wpAnyH_take (i := 11) (v := .agg (bys r).toArray) (by simp only [List.getElem?_toArray, List.getElem?_cons_succ, List.getElem?_cons_zero]; rfl) (by kernel_rfl) (by kernel_rfl) (by kernel_rfl) (fun _ _ _ h => h) (yieldsIf_load_mid (by rfl) 23 (.tmp 18) rfl g (off + 36) rfl (bys r) _ (fun wx hx => RR.out wx hx) Tryd.underlying23 rfl (HSR.out)) (by assumption) ?_
  (try simp only [Act.put, List.setIfInBounds_toArray, List.set_cons_zero, List.set_cons_succ])
  refine wpAnyH_ready (rs := [2]) (by kernel_rfl) (by simp) ?_
  refine AllReadyH.cons (by simp only [List.getElem?_toArray, List.getElem?_cons_succ, List.getElem?_cons_zero]; rfl) (fun K hK => ?_) AllReadyH.nil
  go_simp
  refine (word_any _ c q0 _ _ (R0.out _ hHeld) B0.out).mono ?_
  rintro ee wx ⟨rfl, rfl⟩
  refine hK.out _ _ ?_ (fun hHeld => ?_)
  · exact hHeld
  clear hK K
  (try simp only [Act.put, List.setIfInBounds_toArray, List.set_cons_zero, List.set_cons_succ])
  refine wpAnyH_take (i := 3) (v := ?_) (by simp only [List.getElem?_toArray, List.getElem?_cons_succ, List.getElem?_cons_zero]; rfl) (by kernel_rfl) (by kernel_rfl) (by kernel_rfl) (fun _ _ _ h => h) (Or.inl ⟨by rfl, ?_⟩) (by assumption) ?_
  rotate_left
  · (intro w hSw; (try dsimp only at hSw); go_simp; (try with_reducible rfl))
  (try simp only [Act.put, List.setIfInBounds_toArray, List.set_cons_zero, List.set_cons_succ])
  refine wpAnyH_ready (rs := [14]) (by kernel_rfl) (by simp) ?_
  refine AllReadyH.cons (by simp only [List.getElem?_toArray, List.getElem?_cons_succ, List.getElem?_cons_zero]; rfl) (fun K hK => ?_) AllReadyH.nil
  go_simp
  refine (word_any _ (c - 68) q1 _ _ (R1.out _ hHeld) B1.out).mono ?_
  rintro ee wx ⟨rfl, rfl⟩
  refine hK.out _ _ ?_ (fun hHeld => ?_)
  · exact hHeld
  clear hK K
  (try simp only [Act.put, List.setIfInBounds_toArray, List.set_cons_zero, List.set_cons_succ])
  refine wpAnyH_ready (rs := [17]) (by kernel_rfl) (by simp) ?_
  refine AllReadyH.cons (by simp only [List.getElem?_toArray, List.getElem?_cons_succ, List.getElem?_cons_zero]; rfl) (fun K hK => ?_) AllReadyH.nil
  go_simp
  refine (word_any _ (c - 72) q2 _ _ (R2.out _ hHeld) B2.out).mono ?_
  rintro ee wx ⟨rfl, rfl⟩
  refine hK.out _ _ ?_ (fun hHeld => ?_)
  · exact hHeld
  clear hK K
  (try simp only [Act.put, List.setIfInBounds_toArray, List.set_cons_zero, List.set_cons_succ])
  refine wpAnyH_ready (rs := [20]) (by kernel_rfl) (by simp) ?_
  refine AllReadyH.cons (by simp only [List.getElem?_toArray, List.getElem?_cons_succ, List.getElem?_cons_zero]; rfl) (fun K hK => ?_) AllReadyH.nil
  go_simp
  refine (word_any _ (c - 76) q3 _ _ (R3.out _ hHeld) B3.out).mono ?_
  rintro ee wx ⟨rfl, rfl⟩
  refine hK.out _ _ ?_ (fun hHeld => ?_)
  · exact hHeld
  clear hK K
  (try simp only [Act.put, List.setIfInBounds_toArray, List.set_cons_zero, List.set_cons_succ])
  refine wpAnyH_take (i := 21) (v := .agg (hdC (IntKind.i32.wrap (M.lv q0 4 : Int)) p r (M.lv q1 4) (M.lv q2 4) (M.lv q3 4)).toArray) (by simp only [List.getElem?_toArray, List.getElem?_cons_succ, List.getElem?_cons_zero]; rfl) (by kernel_rfl) (by kernel_rfl) (by kernel_rfl) (fun _ _ _ h => h) (yieldsIf_build (by rfl) 26 _ rfl _ (by exact HBU.out)) (by assumption) ?_
  (try simp only [Act.put, List.setIfInBounds_toArray, List.set_cons_zero, List.set_cons_succ])
  refine wpAnyH_ready (rs := [22]) (by kernel_rfl) (by simp) ?_
  refine AllReadyH.cons (by simp only [List.getElem?_toArray, List.getElem?_cons_succ, List.getElem?_cons_zero]; rfl) (fun K hK => ?_) AllReadyH.nil
  refine (if_pos rfl).mpr (wp_store_mid 26 (.tmp 2) (.tmp 29) rfl w.heap.size 0 (hdC (IntKind.i32.wrap (M.lv q0 4 : Int)) p r (M.lv q1 4) (M.lv q2 4) (M.lv q3 4)).toArray rfl rfl HTE.out (by simpa using HSC.out) (all_oneCell_toArray hdC_one) ?_)
  refine hK.out _ _ ?_ (fun hHeld => ?_)
  · exact HB7.out
  clear hK K
  (try simp only [Act.put, List.setIfInBounds_toArray, List.set_cons_zero, List.set_cons_succ])
  refine wpAnyH_take (i := 23) (v := ?_) (by simp only [List.getElem?_toArray, List.getElem?_cons_succ, List.getElem?_cons_zero]; rfl) (by kernel_rfl) (by kernel_rfl) (by kernel_rfl) (fun _ _ _ h => h) (Or.inl ⟨by rfl, ?_⟩) (by assumption) ?_
  rotate_left
  · (intro w hSw; (try dsimp only at hSw); go_simp; (try with_reducible rfl))
  (try simp only [Act.put, List.setIfInBounds_toArray, List.set_cons_zero, List.set_cons_succ])
  refine wpAnyH_done (by kernel_rfl) ?_ _
  refine NoPanic.normal ?_
  go_wp2_with fail
  exact bodyPost_ret (results_arr_tmp rfl _ _ w.heap.size (hdC (IntKind.i32.wrap (M.lv q0 4 : Int)) p r (M.lv q1 4) (M.lv q2 4) (M.lv q3 4)) _ rfl (World.rangeAt_setCells_same _ _ _ _ (by simpa using HTE.out)) Tryd.underlying26 rfl HSC.out) rfl ⟨rfl, HB7.out⟩
end Go.Proofs.YtkokbpifjpmhlaaDoor
