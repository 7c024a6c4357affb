/- A transaction's bytes are read as it was; cut short, they are none. -/
import Derived.Test.YtkdkihacpjhgmaaXD
namespace Go.Proofs.Ytkdkihacpjhgmaa
set_option linter.unusedSimpArgs false
set_option linter.unusedVariables false
open Go.RowKit

structure PTx.small (t : PTx) : Prop where
  ins : ∀ x ∈ t.ins, x.small
  outs : ∀ o ∈ t.outs, o.small
  i0 : t.ins.length ≠ 0
  o0 : t.outs.length ≠ 0
  i1 : t.ins.length ≤ 1024
  o1 : t.outs.length ≤ 1024
  v0 : -2147483648 ≤ t.ver
  v1 : t.ver ≤ 2147483647
  lock : t.lock < 4294967296
theorem small_of {t : PTx} (h : chk t = 0) (ho : t.ok) : t.small := by
  have k := chk_ok h
  refine ⟨?_, ?_, k.i0, k.o0, k.i1, k.o1, ho.v0, ho.v1, ho.lock⟩
  · intro x hx
    have hc : chkI x = 0 := by
      have key : ∀ l : List TIn, chkL l = 0 → x ∈ l → chkI x = 0 := by
        intro l
        induction l with
        | nil => intro _ h; cases h
        | cons y r ih =>
          intro hl hx
          obtain ⟨h1, h2⟩ := chkL_cons hl
          rcases List.mem_cons.1 hx with rfl | hx
          · exact h1
          · exact ih h2 hx
      exact key _ k.ci hx
    have ok := ho.ins x hx
    obtain ⟨c1, c2, _⟩ := chkI_no hc
    refine ⟨ok.id, ok.out, c2, ok.seq, c1, ?_⟩
    intro p hp
    unfold chkI at hc
    rw [if_neg (by omega), if_neg (by omega)] at hc
    by_cases ha : x.wit.any (fun p => decide (10000 < p.length)) = true
    · rw [if_pos ha] at hc; omega
    · have hall : ∀ q ∈ x.wit, q.length ≤ 10000 := by simpa using ha
      exact hall p hp
  · intro o hoo
    have ok := ho.outs o hoo
    have := List.any_eq_false.1 k.co o hoo
    simp at this
    exact ⟨ok.c0, ok.c1, by omega⟩

theorem layB_r (t : PTx) (b : Bool) : layB t b = M.leB (uw t.ver) 4 ++ ((if b then [0, 1] else []) ++ (M.compB t.ins.length ++ (t.ins.flatMap inB ++ (M.compB t.outs.length ++ (t.outs.flatMap outB ++ ((if b then t.ins.flatMap witB else []) ++ M.leB t.lock 4)))))) := by
  unfold layB preB
  simp only [List.append_assoc]
def tx7 (fl : Bool) (d : List TIn) (s : TS) : TS := (rN (if fl then rWits d s else (d, s)).2 4).2
def tx6 (fl : Bool) (d : List TIn) (m : Nat) (s : TS) : TS := tx7 fl d (rOuts m s []).2
def tx5 (fl : Bool) (d : List TIn) (s : TS) : TS := tx6 fl d (rC s 1024).1 (rC s 1024).2
def tx4 (fl : Bool) (n : Nat) (s : TS) : TS := tx5 fl (rIns n s []).1 (rIns n s []).2
def tx3 (fl : Bool) (s : TS) : TS := tx4 fl (rC s 1024).1 (rC s 1024).2
def tx2 (s : TS) : TS := tx3 (rW s).1 (rW s).2
theorem rTx_end (s : TS) : (rTx s).2.2 = tx2 (rN s 4).2 := rfl
theorem tx7_stk (fl : Bool) (d : List TIn) (s : TS) (h : s.2 ≠ 0) : tx7 fl d s = s := by
  unfold tx7
  cases fl with
  | false => exact rN_stk 4 s h
  | true =>
    simp only [if_true]
    rw [rWits_bad d s h]
    exact rN_stk 4 s h
theorem tx6_stk (fl : Bool) (d : List TIn) (m : Nat) (s : TS) (h : s.2 ≠ 0) : tx6 fl d m s = s := by
  unfold tx6
  rw [rOuts_rL, rL_bad _ _ _ _ h]
  exact tx7_stk fl d s h
theorem tx5_stk (fl : Bool) (d : List TIn) (s : TS) (h : s.2 ≠ 0) : tx5 fl d s = s := by
  unfold tx5
  rw [rC_bad s _ h]
  exact tx6_stk fl d 0 s h
theorem tx4_stk (fl : Bool) (n : Nat) (s : TS) (h : s.2 ≠ 0) : tx4 fl n s = s := by
  unfold tx4
  rw [rIns_rL, rL_bad _ _ _ _ h]
  exact tx5_stk fl [] s h
theorem tx3_stk (fl : Bool) (s : TS) (h : s.2 ≠ 0) : tx3 fl s = s := by
  unfold tx3
  rw [rC_bad s _ h]
  exact tx4_stk fl 0 s h
theorem tx2_stk (s : TS) (h : s.2 ≠ 0) : tx2 s = s := by
  unfold tx2 rW
  rw [if_neg (fun hh => h hh.1)]
  exact tx3_stk false s h
theorem seq_cut2 {α : Type} {f : TS → α × TS} {G : α → TS → TS} {u v : List Nat} {a : α} (hf : Cut f u) (ht : Tot f u a) (hs : ∀ x s, s.2 ≠ 0 → G x s = s) (hg : ∀ j, j < v.length → (G a (v.take j, 0)).2 = 8) (k : Nat) (hk : k < (u ++ v).length) :
    (G (f ((u ++ v).take k, 0)).1 (f ((u ++ v).take k, 0)).2).2 = 8 := by
  rcases cut_app hk with ⟨h1, e⟩ | ⟨i, hi, e⟩
  · rw [e]
    have h2 := hf k h1
    rw [hs _ _ (by rw [h2]; simp), h2]
  · rw [e, ht]
    exact hg i hi
theorem i32_uw (c : Int) (h0 : -2147483648 ≤ c) (h1 : c ≤ 2147483647) : IntKind.i32.wrap ((uw c % 256 ^ 4 : Nat) : Int) = c := by
  rw [p4]
  unfold uw
  simp only [IntKind.wrap, IntKind.signed, IntKind.bits]
  simp
  omega
theorem sg_pos (n : Nat) (h : n ≠ 0) : M.sg n ≠ 0 := by
  unfold M.sg
  split
  · exact h
  · split
    · omega
    · split <;> omega
theorem rW_no (n : Nat) (h : n ≠ 0) (l : List Nat) : rW (M.sg n :: l, 0) = (false, (M.sg n :: l, 0)) := by
  unfold rW
  refine if_neg ?_
  rintro ⟨_, h2⟩
  simp only [List.take_succ_cons, List.cons.injEq] at h2
  exact sg_pos n h h2.1
theorem rW_nil : rW ([], 0) = (false, ([], 0)) := by
  unfold rW
  rw [if_neg (by simp)]
theorem rTx_tot (t : PTx) (h : t.small) (r : List Nat) : rTx (layB t (hasW t) ++ r, 0) = (t, hasW t, (r, 0)) := by
  rw [layB_r]
  simp only [List.append_assoc]
  generalize hR0 : M.compB t.ins.length ++ (t.ins.flatMap inB ++ (M.compB t.outs.length ++ (t.outs.flatMap outB ++ ((if hasW t then t.ins.flatMap witB else []) ++ (M.leB t.lock 4 ++ r))))) = R0
  have e1 := rN_tot (uw t.ver) 4 (by omega) ((if hasW t then [0, 1] else []) ++ R0)
  simp only at e1
  have e2 : rW ((if hasW t then [0, 1] else []) ++ R0, 0) = (hasW t, (R0, 0)) := by
    cases hasW t with
    | true => simp [rW]
    | false =>
      simp only [Bool.false_eq_true, if_false, List.nil_append]
      rw [← hR0]
      exact rW_no t.ins.length h.i0 _
  have e3 := rC_tot t.ins.length 1024 (by have := h.i1; omega) h.i1 (t.ins.flatMap inB ++ (M.compB t.outs.length ++ (t.outs.flatMap outB ++ ((if hasW t then t.ins.flatMap witB else []) ++ (M.leB t.lock 4 ++ r)))))
  simp only at e3
  rw [hR0] at e3
  have e4 := rL_tot rIn inB bare t.ins [] (M.compB t.outs.length ++ (t.outs.flatMap outB ++ ((if hasW t then t.ins.flatMap witB else []) ++ (M.leB t.lock 4 ++ r)))) (fun x hx => rIn_tot x (h.ins x hx))
  rw [← rIns_rL, List.nil_append] at e4
  have e5 := rC_tot t.outs.length 1024 (by have := h.o1; omega) h.o1 (t.outs.flatMap outB ++ ((if hasW t then t.ins.flatMap witB else []) ++ (M.leB t.lock 4 ++ r)))
  simp only at e5
  have e6 := rL_tot rOut outB id t.outs [] ((if hasW t then t.ins.flatMap witB else []) ++ (M.leB t.lock 4 ++ r)) (fun x hx => rOut_tot x (h.outs x hx))
  rw [← rOuts_rL, List.nil_append, List.map_id] at e6
  have e7 : (if hasW t then rWits (t.ins.map bare) ((if hasW t then t.ins.flatMap witB else []) ++ (M.leB t.lock 4 ++ r), 0) else (t.ins.map bare, ((if hasW t then t.ins.flatMap witB else []) ++ (M.leB t.lock 4 ++ r), 0))) = (t.ins, (M.leB t.lock 4 ++ r, 0)) := by
    cases hh : hasW t with
    | true =>
      simp only [if_true]
      exact rWits_tot t.ins _ h.ins
    | false =>
      simp only [Bool.false_eq_true, if_false, List.nil_append]
      have : t.ins.map bare = t.ins := by
        unfold hasW at hh
        rw [List.any_eq_false] at hh
        have key : ∀ l : List TIn, (∀ x ∈ l, ¬ decide (0 < x.wit.length) = true) → l.map bare = l := by
          intro l
          induction l with
          | nil => intro _; rfl
          | cons x r ih =>
            intro hx
            have hx0 := hx x (by simp)
            simp at hx0
            rw [List.map_cons, ih (fun y hy => hx y (by simp [hy]))]
            congr 1
            unfold bare
            rw [← hx0]
        exact key _ hh
      rw [this]
  have e8 := rN_tot t.lock 4 (by omega) r
  simp only at e8
  have e9 : t.lock % 256 ^ 4 = t.lock := by rw [p4]; exact Nat.mod_eq_of_lt h.lock
  rw [e9] at e8
  unfold rTx
  simp only [e1, e2, e3, e4, e5, e6, e7, e8]
  rw [i32_uw _ h.v0 h.v1]
theorem rTx_cut (t : PTx) (h : t.small) (k : Nat) (hk : k < (layB t (hasW t)).length) : (rTx ((layB t (hasW t)).take k, 0)).2.2.2 = 8 := by
  rw [rTx_end]
  rw [layB_r] at hk ⊢
  have c7 : ∀ j, j < ((if hasW t then t.ins.flatMap witB else []) ++ M.leB t.lock 4).length → (tx7 (hasW t) (t.ins.map bare) (((if hasW t then t.ins.flatMap witB else []) ++ M.leB t.lock 4).take j, 0)).2 = 8 := by
    intro j hj
    unfold tx7
    cases hh : hasW t with
    | true =>
      rw [hh] at hj
      simp only [if_true] at hj ⊢
      exact seq_cut2 (f := fun s => rWits (t.ins.map bare) s) (G := fun _ s => (rN s 4).2) (a := t.ins) (fun k hk => rWits_cut t.ins k h.ins hk) (fun r => rWits_tot t.ins r h.ins) (fun _ s hs => rN_stk 4 s hs) (fun j hj => rN_cut t.lock 4 j hj) j hj
    | false =>
      rw [hh] at hj
      simp only [Bool.false_eq_true, if_false, List.nil_append] at hj ⊢
      exact rN_cut t.lock 4 j hj
  have c6 : ∀ j, j < (t.outs.flatMap outB ++ ((if hasW t then t.ins.flatMap witB else []) ++ M.leB t.lock 4)).length → (tx6 (hasW t) (t.ins.map bare) t.outs.length ((t.outs.flatMap outB ++ ((if hasW t then t.ins.flatMap witB else []) ++ M.leB t.lock 4)).take j, 0)).2 = 8 := by
    intro j hj
    unfold tx6
    rw [rOuts_rL]
    exact seq_cut2 (f := fun s => rL rOut t.outs.length s []) (G := fun _ s => tx7 (hasW t) (t.ins.map bare) s) (a := t.outs) (fun k hk => rL_cut rOut outB id t.outs [] k (fun x hx => ⟨rOut_tot x (h.outs x hx), rOut_cut x (h.outs x hx)⟩) hk)
      (fun r => by have := rL_tot rOut outB id t.outs [] r (fun x hx => rOut_tot x (h.outs x hx)); simpa using this) (fun _ s hs => tx7_stk _ _ s hs) c7 j hj
  have c5 : ∀ j, j < (M.compB t.outs.length ++ (t.outs.flatMap outB ++ ((if hasW t then t.ins.flatMap witB else []) ++ M.leB t.lock 4))).length → (tx5 (hasW t) (t.ins.map bare) ((M.compB t.outs.length ++ (t.outs.flatMap outB ++ ((if hasW t then t.ins.flatMap witB else []) ++ M.leB t.lock 4))).take j, 0)).2 = 8 := by
    intro j hj
    unfold tx5
    exact seq_cut2 (f := fun s => rC s 1024) (G := fun m s => tx6 (hasW t) (t.ins.map bare) m s) (a := t.outs.length) (rC_cut _ 1024 (by have := h.o1; omega)) (rC_tot _ 1024 (by have := h.o1; omega) h.o1) (fun m s hs => tx6_stk _ _ m s hs) c6 j hj
  have c4 : ∀ j, j < (t.ins.flatMap inB ++ (M.compB t.outs.length ++ (t.outs.flatMap outB ++ ((if hasW t then t.ins.flatMap witB else []) ++ M.leB t.lock 4)))).length → (tx4 (hasW t) t.ins.length ((t.ins.flatMap inB ++ (M.compB t.outs.length ++ (t.outs.flatMap outB ++ ((if hasW t then t.ins.flatMap witB else []) ++ M.leB t.lock 4)))).take j, 0)).2 = 8 := by
    intro j hj
    unfold tx4
    rw [rIns_rL]
    exact seq_cut2 (f := fun s => rL rIn t.ins.length s []) (G := fun d s => tx5 (hasW t) d s) (a := t.ins.map bare) (fun k hk => rL_cut rIn inB bare t.ins [] k (fun x hx => ⟨rIn_tot x (h.ins x hx), rIn_cut x (h.ins x hx)⟩) hk)
      (fun r => by have := rL_tot rIn inB bare t.ins [] r (fun x hx => rIn_tot x (h.ins x hx)); simpa using this) (fun d s hs => tx5_stk _ d s hs) c5 j hj
  generalize hX4 : (t.ins.flatMap inB ++ (M.compB t.outs.length ++ (t.outs.flatMap outB ++ ((if hasW t then t.ins.flatMap witB else []) ++ M.leB t.lock 4)))) = X4 at *
  have c3 : ∀ j, j < (M.compB t.ins.length ++ X4).length → (tx3 (hasW t) ((M.compB t.ins.length ++ X4).take j, 0)).2 = 8 := by
    intro j hj
    unfold tx3
    exact seq_cut2 (f := fun s => rC s 1024) (G := fun n s => tx4 (hasW t) n s) (a := t.ins.length) (rC_cut _ 1024 (by have := h.i1; omega)) (rC_tot _ 1024 (by have := h.i1; omega) h.i1) (fun n s hs => tx4_stk _ n s hs) c4 j hj
  refine seq_cut2 (f := fun s => rN s 4) (G := fun _ s => tx2 s) (a := uw t.ver % 256 ^ 4) (rN_cut _ 4) (rN_tot (uw t.ver) 4 (by omega)) (fun _ s hs => tx2_stk s hs) ?_ k hk
  intro j hj
  show (tx2 _).2 = 8
  cases hh : hasW t with
  | false =>
    rw [hh] at hj c3
    simp only [Bool.false_eq_true, if_false, List.nil_append] at hj ⊢
    have e2 : rW ((M.compB t.ins.length ++ X4).take j, 0) = (false, ((M.compB t.ins.length ++ X4).take j, 0)) := by
      cases j with
      | zero => exact rW_nil
      | succ j => exact rW_no t.ins.length h.i0 _
    unfold tx2
    rw [e2]
    exact c3 j hj
  | true =>
    rw [hh] at hj c3
    simp only [if_true] at hj ⊢
    match j, hj with
    | 0, _ =>
      simp only [List.take_zero]
      unfold tx2
      rw [rW_nil]
      decide +kernel
    | 1, _ =>
      show (tx2 ([0], 0)).2 = 8
      decide +kernel
    | j + 2, hj =>
      have e : ([0, 1] ++ (M.compB t.ins.length ++ X4)).take (j + 2) = 0 :: 1 :: (M.compB t.ins.length ++ X4).take j := rfl
      rw [e]
      have e2 : rW (0 :: 1 :: (M.compB t.ins.length ++ X4).take j, 0) = (true, ((M.compB t.ins.length ++ X4).take j, 0)) := by simp [rW]
      unfold tx2
      rw [e2]
      exact c3 j (by simp only [List.length_append, List.length_cons, List.length_nil] at hj ⊢; omega)
/-- What was laid is read, whatever stands behind. -/
theorem dec_enc (t : PTx) (h : t.small) (he : (layB t (hasW t)).length ≤ 65536) (r : List Nat) : dec (layB t (hasW t) ++ r) = (t, (layB t (hasW t)).length, 0) := by
  have e1 : (layB t (hasW t) ++ r).take 65536 = layB t (hasW t) ++ r.take (65536 - (layB t (hasW t)).length) := by
    rw [List.take_append, List.take_of_length_le he]
  unfold dec
  rw [e1, rTx_tot t h]
  simp only
  rw [if_neg (by simp), if_neg]
  · simp only [List.length_append]
    rw [Nat.add_sub_cancel]
  · rintro (h1 | h1 | ⟨h1, h2⟩)
    · exact h.i0 h1
    · exact h.o0 h1
    · rw [h1] at h2; cases h2
/-- .. cut short, it is none. -/
theorem dec_cut (t : PTx) (h : t.small) (he : (layB t (hasW t)).length ≤ 65536) (k : Nat) (hk : k < (layB t (hasW t)).length) : dec ((layB t (hasW t)).take k) = (nil0, 0, 8) := by
  have hl : ((layB t (hasW t)).take k).length = k := by rw [List.length_take]; omega
  have e1 : ((layB t (hasW t)).take k).take 65536 = (layB t (hasW t)).take k := List.take_of_length_le (by omega)
  have e2 := rTx_cut t h k hk
  unfold dec
  rw [e1]
  simp only
  rw [if_pos (by rw [e2]; simp), e2]
  unfold told ends
  rw [if_pos rfl, hl, if_neg (by omega)]
theorem enc_ok {t : PTx} (h : encE t = 0) : chk t = 0 ∧ (layB t (hasW t)).length ≤ 65536 := by
  unfold encE at h
  split at h
  · next h1 => exact absurd h h1
  · next h1 =>
    split at h
    · omega
    · split at h
      · omega
      · next h3 => exact ⟨by simpa using h1, by omega⟩
end Go.Proofs.Ytkdkihacpjhgmaa
