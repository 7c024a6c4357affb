/- What the reader of a transaction has so far. -/
import Derived.Test.YtkdkihacpjhgmaaY6
import Derived.Test.YtkdkihacpjhgmaaArm
namespace Go.Proofs.Ytkdkihacpjhgmaa
set_option linter.unusedSimpArgs false
set_option linter.unusedVariables false
open Go.RowKit

theorem infoIn_parts {i : Option TypeInfo} (h : i.map (fun i => (i.zero, i.size, i.bytes)) = some (some (.agg ZIN.toArray), 36, 88)) : ∃ i0, i = some i0 ∧ i0.zero = some (.agg ZIN.toArray) ∧ i0.size = 36 ∧ i0.bytes = 88 := by
  cases i with
  | none => cases h
  | some i0 => simp at h; exact ⟨i0, rfl, h.1, h.2.1, h.2.2⟩
theorem infoOut_parts {i : Option TypeInfo} (h : i.map (fun i => (i.zero, i.size, i.bytes)) = some (some (Value.agg #[.int .i64 0, .string ⟨#[]⟩]), 2, 24)) : ∃ i0, i = some i0 ∧ i0.zero = some (Value.agg #[.int .i64 0, .string ⟨#[]⟩]) ∧ i0.size = 2 ∧ i0.bytes = 24 := by
  cases i with
  | none => cases h
  | some i0 => simp at h; exact ⟨i0, rfl, h.1, h.2.1, h.2.2⟩
theorem lit_in (w : World) (C : List Value) (hC : C.length = 36) (parts : Array (Nat × Value)) (hp : parts.toList = [(0, .agg C.toArray)]) :
    (Instr.buildSlice 22 1 parts).run Try.prog w = .ok (.slice (some ⟨w.heap.size, 0, none⟩) 1 1) (w.alloc (.cells C.toArray 58)) := by
  obtain ⟨i0, hi, hz0, hz1, hz2⟩ := infoIn_parts Try.infoIn
  have := run_buildSlice_rows (P := Try.prog) w 22 58 i0 _ 36 Try.underlying22 hi hz0 hz1 (by omega) 1 [C] rfl (by omega) (by simpa using hC) (by omega) parts hp
  simpa using this
theorem lit_out (w : World) (o : TOut) (parts : Array (Nat × Value)) (hp : parts.toList = [(0, .agg o.cells.toArray)]) :
    (Instr.buildSlice 23 1 parts).run Try.prog w = .ok (.slice (some ⟨w.heap.size, 0, none⟩) 1 1) (w.alloc (.cells o.cells.toArray 49)) := by
  obtain ⟨i0, hi, hz0, hz1, hz2⟩ := infoOut_parts Try.infoOut
  have := run_buildSlice_rows (P := Try.prog) w 23 49 i0 _ 2 Try.underlying23 hi hz0 hz1 (by omega) 1 [o.cells] rfl (by omega) (by simp [TOut.cells]) (by omega) parts hp
  simpa using this
theorem app_in (w : World) (base : Nat) (v : Value) (n : Nat) (xs : List Value) (hown : w.ownsRow base 58 36 v n xs) (C : List Value) (hC : C.length = 36) (h1 : ∀ u ∈ C, u.oneCell' = true) (hn : (n : Int) ≤ 1000000) (hbase : base ≤ w.heap.size) :
    ∃ v' w', (Builtin.append_ #[22, 22] 22 #[v, .slice (some ⟨w.heap.size, 0, none⟩) 1 1]).run Try.prog (w.alloc (.cells C.toArray 58)) = .ok v' w' ∧ w'.ownsRow base 58 36 v' (n + 1) (xs ++ C) ∧ w.grownBy w' v.ownBlock ∧ (v'.ownBlock = v.ownBlock ∨ ∀ k, v'.ownBlock = some k → w.heap.size ≤ k) := by
  obtain ⟨i0, hi, hz0, hz1, hz2⟩ := infoIn_parts Try.infoIn
  obtain ⟨v', w', q1, q2, q3, q4⟩ := run_appN (P := Try.prog) (w.alloc (.cells C.toArray 58)) base 22 22 58 i0 _ 36 88 Try.underlying22 hi hz0 hz1 hz2 (by simp [Value.cells, ZIN_len]) (by omega) (hown.alloc _) (RdN.new w 36 1 C 58 (0, 0) (by rw [hC])) (c := 1) h1 (by unfold maxLen; omega) (by omega) (by simp; omega)
  refine ⟨v', w', q1, q2, (World.grownBy_alloc w _ _).trans q3, q4.imp id fun e k hk => ?_⟩
  have := e k hk
  simp at this
  omega
theorem app_out (w : World) (base : Nat) (v : Value) (n : Nat) (xs : List Value) (hown : w.ownsRow base 49 2 v n xs) (o : TOut) (hn : (n : Int) ≤ 1000000) (hbase : base ≤ w.heap.size) :
    ∃ v' w', (Builtin.append_ #[23, 23] 23 #[v, .slice (some ⟨w.heap.size, 0, none⟩) 1 1]).run Try.prog (w.alloc (.cells o.cells.toArray 49)) = .ok v' w' ∧ w'.ownsRow base 49 2 v' (n + 1) (xs ++ o.cells) ∧ w.grownBy w' v.ownBlock ∧ (v'.ownBlock = v.ownBlock ∨ ∀ k, v'.ownBlock = some k → w.heap.size ≤ k) := by
  obtain ⟨i0, hi, hz0, hz1, hz2⟩ := infoOut_parts Try.infoOut
  obtain ⟨v', w', q1, q2, q3, q4⟩ := run_appN (P := Try.prog) (w.alloc (.cells o.cells.toArray 49)) base 23 23 49 i0 _ 2 24 Try.underlying23 hi hz0 hz1 hz2 rfl (by omega) (hown.alloc _) (RdN.new w 2 1 o.cells 49 (0, 0) rfl) (c := 1) (by intro u hu; simp [TOut.cells] at hu; rcases hu with rfl | rfl <;> rfl) (by unfold maxLen; omega) (by omega) (by simp; omega)
  refine ⟨v', w', q1, q2, (World.grownBy_alloc w _ _).trans q3, q4.imp id fun e k hk => ?_⟩
  have := e k hk
  simp at this
  omega

theorem flat_set {α : Type} (f : α → List Value) (s k : Nat) (v : Value) (hk : k < s) : ∀ (L : List α), (∀ x ∈ L, (f x).length = s) → ∀ (i : Nat) (x x' : α), L[i]? = some x → (f x).set k v = f x' → (L.flatMap f).set (i * s + k) v = (L.set i x').flatMap f
  | [], _, i, x, x', h, _ => by simp at h
  | y :: r, hs, 0, x, x', h, he => by
    simp at h; subst h
    rw [List.flatMap_cons, Nat.zero_mul, Nat.zero_add, List.set_append_left _ _ (by rw [hs y (by simp)]; exact hk), he]
    simp
  | y :: r, hs, i + 1, x, x', h, he => by
    have ih := flat_set f s k v hk r (fun z hz => hs z (by simp [hz])) i x x' (by simpa using h) he
    have hy := hs y (by simp)
    rw [List.flatMap_cons, List.set_append_right _ _ (by rw [hy, Nat.succ_mul]; omega), hy, show (i + 1) * s + k - s = i * s + k by rw [Nat.succ_mul]; omega, ih]
    simp
/-- While a transaction is read. -/
structure TxS (w wi : World) (B g gt en : Nat) (bs : List Nat) (s : TS) (ver : Int) (vI : Value) (LI : List MIn) (vO : Value) (LO : List TOut) : Prop where
  rx : Rx wi B g bs en s
  t : Tch w wi [g]
  res : Bx4 wi w.heap.size (.int .i32 0) (.slice none 0 0) (.slice none 0 0) (.int .u32 0)
  box : Bx4 wi gt (.int .i32 ver) vI vO (.int .u32 0)
  oi : wi.ownsRow (gt + 1) 58 36 vI LI.length (LI.flatMap MIn.cells)
  oo : wi.ownsRow (gt + 1) 49 2 vO LO.length (LO.flatMap TOut.cells)
  gl : g < w.heap.size
  gh : w.heap.size < gt
  ap : ∀ k, vI.ownBlock = some k → vO.ownBlock ≠ some k
section
variable {w wi wj : World} {B g gt en : Nat} {bs : List Nat} {s s' : TS} {ver : Int} {vI vO : Value} {LI : List MIn} {LO : List TOut}
theorem TxS.call (h : TxS w wi B g gt en bs s ver vI LI vO LO) (r : Rx wj B g bs en s') (t : Tch wi wj [g]) : TxS w wj B g gt en bs s' ver vI LI vO LO := by
  have hg := h.gl
  have hh := h.gh
  exact ⟨r, h.t.trans t (fun i hi => .inl hi), h.res.keep (t.block _ h.res.lt (by simp; omega)), h.box.keep (t.block _ h.box.lt (by simp; omega)),
    ownN_keep h.oi (fun k hk => t.block k (h.oi.lt k hk).2 (by have := (h.oi.lt k hk).1; simp; omega)), ownN_keep h.oo (fun k hk => t.block k (h.oo.lt k hk).2 (by have := (h.oo.lt k hk).1; simp; omega)), hg, hh, h.ap⟩
theorem TxS.drew (h : TxS w wi B g gt en bs s ver vI LI vO LO) : TxS w wi.drew B g gt en bs s ver vI LI vO LO :=
  h.call (h.rx.below (Below.drew' (Below.refl _ _))) (Tch.of_below _ (Below.drew' (Below.refl _ _)))
theorem TxS.addIn (h : TxS w wi B g gt en bs s ver vI LI vO LO) (x : MIn) (hx : x.cells.length = 36) (hl : LI.length ≤ 100000) :
    ∃ v6 w6, (Builtin.append_ #[22, 22] 22 #[vI, .slice (some ⟨wi.heap.size, 0, none⟩) 1 1]).run Try.prog (wi.alloc (.cells x.cells.toArray 58)) = .ok v6 w6 ∧
      w6.cell? ⟨gt, 1, none⟩ = some vI ∧ w6.frozen? ⟨gt, 1, none⟩ = false ∧ TxS w (w6.setCell ⟨gt, 1, none⟩ v6) B g gt en bs s ver v6 (LI ++ [x]) vO LO := by
  have hbl : gt + 1 ≤ wi.heap.size := h.box.lt
  obtain ⟨v6, w6, q1, q2, q3, q4⟩ := app_in wi (gt + 1) vI LI.length _ h.oi x.cells hx inC_one (by omega) hbl
  have hg := h.gl
  have hh := h.gh
  have hlt := h.oi.lt
  have hot := h.oo.lt
  have t1 : Tch wi w6 vI.ownBlock.toList := Tch.of_grown q3 (fun k hk => by rw [hk]; simp)
  have hout : ∀ k, k ≤ gt → k ∉ vI.ownBlock.toList := fun k hk hm => by
    simp at hm
    have := (hlt k hm).1
    omega
  have hb6 := h.box.keep (t1.block gt h.box.lt (hout gt (Nat.le_refl _)))
  have hr6 := h.res.keep (t1.block _ h.res.lt (hout _ (by omega)))
  have hx6 : Rx w6 B g bs en s := h.rx.tch t1 (hout g (by omega)) (fun i hi => by simp at hi; have := (hlt i hi).1; have := h.rx.lo; omega)
  have ho6 := ownN_keep h.oo (fun k hk => t1.block k (hot k hk).2 (fun hm => by simp at hm; exact h.ap k hm hk))
  have t2 : Tch w6 (w6.setCell ⟨gt, 1, none⟩ v6) [gt] := Tch.of_grown (grown_setCell _ _ _) (by simp)
  have hn6 : ∀ k, v6.ownBlock = some k → gt + 1 ≤ k := fun k hk => (q2.lt k hk).1
  refine ⟨v6, w6, q1, hb6.c1, hb6.cold 1, hx6.tch t2 (by simp; omega) (by simp; have := h.rx.lo; omega), ?_, hr6.keep (t2.block _ hr6.lt (by simp; omega)), hb6.set1 v6, ?_, ?_, hg, hh, ?_⟩
  · refine (h.t.trans t1 (fun i hi => by simp at hi; have := (hlt i hi).1; exact .inr (by omega))).trans t2 (fun i hi => by simp at hi; exact .inr (by omega))
  · rw [List.length_append, List.flatMap_append]
    refine ownN_keep (xs := LI.flatMap MIn.cells ++ [x].flatMap MIn.cells) (by simpa using q2) (fun k hk => t2.block k (q2.lt k hk).2 (by have := hn6 k hk; simp; omega))
  · exact ownN_keep ho6 (fun k hk => t2.block k (Nat.lt_of_lt_of_le (hot k hk).2 t1.size) (by have := (hot k hk).1; simp; omega))
  · intro k hk hk'
    rcases q4 with e | e
    · rw [e] at hk; exact h.ap k hk hk'
    · have := e k hk; have := (hot k hk').2; omega
theorem TxS.addOut (h : TxS w wi B g gt en bs s ver vI LI vO LO) (x : TOut) (hl : LO.length ≤ 100000) :
    ∃ v6 w6, (Builtin.append_ #[23, 23] 23 #[vO, .slice (some ⟨wi.heap.size, 0, none⟩) 1 1]).run Try.prog (wi.alloc (.cells x.cells.toArray 49)) = .ok v6 w6 ∧
      w6.cell? ⟨gt, 2, none⟩ = some vO ∧ w6.frozen? ⟨gt, 2, none⟩ = false ∧ TxS w (w6.setCell ⟨gt, 2, none⟩ v6) B g gt en bs s ver vI LI v6 (LO ++ [x]) := by
  have hbl : gt + 1 ≤ wi.heap.size := h.box.lt
  obtain ⟨v6, w6, q1, q2, q3, q4⟩ := app_out wi (gt + 1) vO LO.length _ h.oo x (by omega) hbl
  have hg := h.gl
  have hh := h.gh
  have hlt := h.oo.lt
  have hot := h.oi.lt
  have t1 : Tch wi w6 vO.ownBlock.toList := Tch.of_grown q3 (fun k hk => by rw [hk]; simp)
  have hout : ∀ k, k ≤ gt → k ∉ vO.ownBlock.toList := fun k hk hm => by
    simp at hm
    have := (hlt k hm).1
    omega
  have hb6 := h.box.keep (t1.block gt h.box.lt (hout gt (Nat.le_refl _)))
  have hr6 := h.res.keep (t1.block _ h.res.lt (hout _ (by omega)))
  have hx6 : Rx w6 B g bs en s := h.rx.tch t1 (hout g (by omega)) (fun i hi => by simp at hi; have := (hlt i hi).1; have := h.rx.lo; omega)
  have ho6 := ownN_keep h.oi (fun k hk => t1.block k (hot k hk).2 (fun hm => by simp at hm; exact h.ap k hk hm))
  have t2 : Tch w6 (w6.setCell ⟨gt, 2, none⟩ v6) [gt] := Tch.of_grown (grown_setCell _ _ _) (by simp)
  have hn6 : ∀ k, v6.ownBlock = some k → gt + 1 ≤ k := fun k hk => (q2.lt k hk).1
  refine ⟨v6, w6, q1, hb6.c2, hb6.cold 2, hx6.tch t2 (by simp; omega) (by simp; have := h.rx.lo; omega), ?_, hr6.keep (t2.block _ hr6.lt (by simp; omega)), hb6.set2 v6, ?_, ?_, hg, hh, ?_⟩
  · refine (h.t.trans t1 (fun i hi => by simp at hi; have := (hlt i hi).1; exact .inr (by omega))).trans t2 (fun i hi => by simp at hi; exact .inr (by omega))
  · exact ownN_keep ho6 (fun k hk => t2.block k (Nat.lt_of_lt_of_le (hot k hk).2 t1.size) (by have := (hot k hk).1; simp; omega))
  · rw [List.length_append, List.flatMap_append]
    refine ownN_keep (xs := LO.flatMap TOut.cells ++ [x].flatMap TOut.cells) (by simpa using q2) (fun k hk => t2.block k (q2.lt k hk).2 (by have := hn6 k hk; simp; omega))
  · intro k hk hk'
    rcases q4 with e | e
    · rw [e] at hk'; exact h.ap k hk hk'
    · have := e k hk'; have := (hot k hk).2; omega
/-- A witness is stored in its input. -/
theorem TxS.setWit (h : TxS w wi B g gt en bs s ver vI LI vO LO) (i : Nat) (x : MIn) (hx : LI[i]? = some x) (hid : ∀ y ∈ LI, y.cells.length = 36) (h32 : x.p.id.length = 32) (p : List (List Nat)) (wa : Option Addr) (wc : Nat) :
    ∃ gi c, vI = .slice (some ⟨gi, 0, none⟩) LI.length c ∧ i < LI.length ∧ gt < gi ∧ gi < wi.heap.size ∧ (wi.cell? ⟨gi, i * 36 + 35, none⟩).isSome = true ∧ wi.frozen? ⟨gi, i * 36 + 35, none⟩ = false ∧
      TxS w (wi.setCell ⟨gi, i * 36 + 35, none⟩ (.slice wa p.length wc)) B g gt en bs s ver vI (LI.set i ⟨{ x.p with wit := p }, wa, wc⟩) vO LO := by
  have hi : i < LI.length := (List.getElem?_eq_some_iff.1 hx).1
  have hfl := flat_len MIn.cells 36 LI hid
  have hj : i * 36 + 35 < LI.length * 36 := by omega
  have hown := h.oi
  rcases hown.2 with ⟨_, h0⟩ | ⟨gi, c, cur, hv, hb, hgi, hnc, hcm, hcs, htk⟩
  · omega
  · have hlt := (Array.getElem?_eq_some_iff.1 hgi).1
    rw [hv] at hown
    have hcell := hown.cellAt (i * 36 + 35) hj
    have hfr := hown.frozenAt (i * 36 + 35)
    have hst := hown.stored (i * 36 + 35) (.slice wa p.length wc)
    have hgl := h.gl
    have hgh := h.gh
    have hset : x.cells.set 35 (.slice wa p.length wc) = MIn.cells ⟨{ x.p with wit := p }, wa, wc⟩ := by
      have hp : (bys x.p.id).length = 32 := by rw [bys_len]; exact h32
      simp [MIn.cells, inC, List.set_append, hp]
    rw [flat_set MIn.cells 36 35 _ (by omega) LI hid i x _ hx hset] at hst
    have t2 : Tch wi (wi.setCell ⟨gi, i * 36 + 35, none⟩ (.slice wa p.length wc)) [gi] := Tch.of_grown (grown_setCell _ _ _) (by simp)
    have hvb : vI.ownBlock = some gi := by rw [hv]; rfl
    have hob := h.ap gi hvb
    refine ⟨gi, c, hv, hi, by omega, hlt, ?_, hfr, h.rx.tch t2 (by simp; omega) (by simp; have := h.rx.lo; omega), h.t.trans t2 (by simp; omega), h.res.keep (t2.block _ h.res.lt (by simp; omega)), h.box.keep (t2.block _ h.box.lt (by simp; omega)), ?_, ?_, hgl, hgh, h.ap⟩
    · rw [hcell, List.getElem?_eq_getElem (by rw [hfl]; exact hj)]; rfl
    · rw [hv, List.length_set]; exact hst.1
    · exact ownN_keep h.oo (fun k hk => t2.block k (h.oo.lt k hk).2 (by simp; rintro rfl; exact hob hk))
end
end Go.Proofs.Ytkdkihacpjhgmaa
