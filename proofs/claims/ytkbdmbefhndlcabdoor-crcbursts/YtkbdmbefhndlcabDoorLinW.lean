/- The walk of CrcLinear. -/
import Derived.Test.YtkbdmbefhndlcabDoorLin
import Derived.Test.YtkbdmbefhndlcabDoorMoresW
import Derived.StillTailTactics
import Derived.Deep.QuietTactic
import Derived.BigQuiet
import Derived.Deep.RegionHeld3
import Derived.Deep.LoopGhost
import Derived.Deep.DeepCutAuto
namespace Go.Proofs.YtkbdmbefhndlcabDoor
set_option linter.unusedSimpArgs false
set_option linter.unusedVariables false
open Go.RowKit

theorem zx_len (l m : List Nat) (h : l.length = m.length) : (zx l m).length = l.length := by simp [zx, h]
def zt (l m : List Nat) (j : Nat) : List Nat := zx (l.take j) (m.take j)
theorem zt_succ (l m : List Nat) (j : Nat) (hl : j < l.length) (hm : j < m.length) : zt l m (j + 1) = zt l m j ++ [l.getD j 0 ^^^ m.getD j 0] := by
  unfold zt zx
  rw [take_snoc l j hl, take_snoc m j hm, List.zipWith_append (by simp; omega)]
  rfl
theorem getD_lt {bs : List Nat} (hb : ∀ c ∈ bs, c < 256) (j : Nat) : bs.getD j 0 < 256 := by
  by_cases h : j < bs.length
  · rw [List.getD_eq_getElem?_getD, List.getElem?_eq_getElem h]; exact hb _ (List.getElem_mem h)
  · rw [List.getD_eq_getElem?_getD, List.getElem?_eq_none (by omega)]; simp
theorem xor_lt8 (a b : Nat) (ha : a < 256) (hb : b < 256) : a ^^^ b < 256 := by
  have e : (256 : Nat) = 2 ^ 8 := by decide
  rw [e] at ha hb ⊢
  exact Nat.xor_lt_two_pow ha hb
theorem zx_lt (l m : List Nat) (hl : ∀ c ∈ l, c < 256) (hm : ∀ c ∈ m, c < 256) : ∀ c ∈ zx l m, c < 256 := by
  induction l generalizing m with
  | nil => intro c hc; simp [zx] at hc
  | cons x l ih =>
    cases m with
    | nil => intro c hc; simp [zx] at hc
    | cons y m =>
      intro c hc
      have hc' : c = x ^^^ y ∨ c ∈ zx l m := by simpa [zx] using hc
      rcases hc' with rfl | hc'
      · exact xor_lt8 x y (hl x (by simp)) (hm y (by simp))
      · exact ih m (fun c hc => hl c (by simp [hc])) (fun c hc => hm c (by simp [hc])) c hc'

/-- Two slices that lie in unlike blocks. -/
def Apart (v u : Value) : Prop := ∀ k, v.ownBlock = some k → u.ownBlock ≠ some k
theorem Apart.symm {v u : Value} (h : Apart v u) : Apart u v := fun k hk hv => h k hv hk
theorem Laid.other {w w' : World} {base : Nat} {v v' u : Value} {n' n : Nat} {xs' xs : List Value} (h : Laid w base v w' v' n' xs') (hu : Buf w base u n xs) (ha : Apart v u) : Buf w' base u n xs ∧ Apart v' u := by
  refine ⟨hu.grown h.grown fun k hk e => ha k e.symm hk, fun k hk hk' => ?_⟩
  rcases h.own with e | e
  · exact ha k (by rw [← e]; exact hk) hk'
  · have h1 := e k hk
    have h2 := (hu.lt k hk').2
    omega

theorem sum_quiet (A : Option Addr) (n c : Nat) (bs : List Nat) (w : World) (B : Nat) (hr : Rd w B A n (bys bs)) (hb : ∀ c ∈ bs, c < 256) (hn : n ≤ 1000000000) (ht : TabAt w) (k : Nat) :
    Calls Tryd.prog 10 #[.slice A n c] (w.drewN k) fun e w'' => e = .returned (.int .u32 ((nt (crcR (nt 0) bs) : Nat) : Int)) ∧ ∃ m, w'' = w.drewN m :=
  (sum_any A n c bs (w.drewN k) B (hr.drewN k) hb hn ht).mono fun _ _ ⟨he, hm⟩ => ⟨he, k, hm.symm⟩
/-- append of one element that the text has just laid in a row of its own, as one operation of a region that draws its order. -/
theorem operwp_append_one {P : Program} {w : World} {o : Oper} {a : Act} {Q : Exit → Act → World → Prop} {K : Act → World → Prop} {g : Bool} {E : Prop} (hgd : g = true) (s x : Operand) (t : TypeId)
    (ho : o.op = .call { callee := .builtin .append, args := #[s, x], argTypes := #[t, t] })
    (base : Nat) (e : TypeId) (i : TypeInfo) (z : Value) (bytes : Nat) (ht : P.underlying t = some (.slice e)) (hi : P.info? e = some i) (hz : i.zero = some z)
    (hsize : i.size = 1) (hby : i.bytes = bytes) (hzs : z.cells.size = 1)
    {v : Value} {n : Nat} {xs : List Value} (hs : a.eval s = v) (hbuf : Buf w base v n xs)
    {u : Value} (hx : a.eval x = .slice (some ⟨w.heap.size, 0, none⟩) 1 1) (h1 : u.oneCell' = true)
    (h63 : n + 1 ≤ maxLen) (hbytes : (n + 1) * bytes ≤ 140737488355328) (hbase : base ≤ w.heap.size)
    (hK : ∀ v' w', Buf w' base v' (n + 1) (xs ++ [u]) → w.grownBy w' v.ownBlock → (v'.ownBlock = v.ownBlock ∨ ∀ k, v'.ownBlock = some k → w.heap.size ≤ k) → K (a.put o.dst v') w') :
    if g = true then Oper.wp P o a (w.alloc (.cells #[u] e)) K Q else E := by
  have hr : Rd (w.alloc (.cells #[u] e)) (w.heap.size + 1) (some ⟨w.heap.size, 0, none⟩) 1 [u] :=
    ⟨rfl, fun _ => ⟨_, _, rfl, Nat.lt_succ_self _, fun j u' hu => by
      have := cell_one_new w u e j u' hu
      rwa [Addr.add_lit] at this⟩⟩
  obtain ⟨v', w', hrun, r1, r2, r3⟩ := run_append_buf (P := P) _ base t o.type e i z bytes ht hi hz hsize hby hzs (hbuf.alloc _) (c := 1) hr (by simpa using h1) h63 hbytes (by simp; omega)
  rw [if_pos hgd]
  unfold Oper.wp
  simp [execOp, ho, resolve, invoke, builtin, hs, hx, hrun, Result.andThen]
  refine hK v' w' r1 ((World.grownBy_alloc w _ _).trans r2) (r3.imp id fun h k hk => ?_)
  have := h k hk
  simp at this
  omega

theorem operwp_append_one_drew {P : Program} {w : World} {o : Oper} {a : Act} {Q : Exit → Act → World → Prop} {K : Act → World → Prop} {g : Bool} {E : Prop} (hgd : g = true) (s x : Operand) (t : TypeId)
    (ho : o.op = .call { callee := .builtin .append, args := #[s, x], argTypes := #[t, t] })
    (base : Nat) (e : TypeId) (i : TypeInfo) (z : Value) (bytes : Nat) (ht : P.underlying t = some (.slice e)) (hi : P.info? e = some i) (hz : i.zero = some z)
    (hsize : i.size = 1) (hby : i.bytes = bytes) (hzs : z.cells.size = 1)
    {v : Value} {n : Nat} {xs : List Value} (hs : a.eval s = v) (hbuf : Buf w base v n xs)
    {u : Value} (hx : a.eval x = .slice (some ⟨w.heap.size, 0, none⟩) 1 1) (h1 : u.oneCell' = true)
    (h63 : n + 1 ≤ maxLen) (hbytes : (n + 1) * bytes ≤ 140737488355328) (hbase : base ≤ w.heap.size)
    (hK : ∀ v' w', Buf w' base v' (n + 1) (xs ++ [u]) → w.grownBy w' v.ownBlock → (v'.ownBlock = v.ownBlock ∨ ∀ k, v'.ownBlock = some k → w.heap.size ≤ k) → K (a.put o.dst v') w') :
    if g = true then Oper.wp P o a (w.alloc (.cells #[u] e)).drew K Q else E :=
  operwp_append_one (w := w.drew) hgd s x t ho base e i z bytes ht hi hz hsize hby hzs hs hbuf.drew hx h1 h63 hbytes hbase
    fun v' w' r1 r2 r3 => hK v' w' r1 ⟨r2.os, r2.tape, r2.output, r2.size, r2.block⟩ r3

set_option maxHeartbeats 1000000 in
set_option maxRecDepth 100000 in
theorem lin_walk (A1 A2 A3 : Option Addr) (n1 n2 n3 c1 c2 c3 : Nat) (l1 l2 l3 : List Nat) (w : World) (hr1 : Rd w w.heap.size A1 n1 (bys l1)) (hr2 : Rd w w.heap.size A2 n2 (bys l2)) (hr3 : Rd w w.heap.size A3 n3 (bys l3))
    (hb1 : ∀ c ∈ l1, c < 256) (hb2 : ∀ c ∈ l2, c < 256) (hb3 : ∀ c ∈ l3, c < 256) (ht : TabAt w) (n : Nat) (hn1 : n ≤ n1) (hn2 : n ≤ n2) (hn3 : n ≤ n3) (hmin : min (min (n1 : Int) n2) n3 = n)
    (hc1 : n1 ≤ c1) (hc2 : n2 ≤ c2) (hm1 : (n1 : Int) ≤ 9223372036854775807) (hm2 : (n2 : Int) ≤ 9223372036854775807) (hm3 : (n3 : Int) ≤ 9223372036854775807) :
    Calls Tryd.prog 7 #[.slice A1 n1 c1, .slice A2 n2 c2, .slice A3 n3 c3] w fun e w' => e = .returned (.bool true) ∧ Below w.heap.size w w' := by
  obtain ⟨i0, hi, hz0, hz1, hz2⟩ := info_parts Tryd.info5
  have HT := Lib.hid ht
  clear ht
  have HM := Lib.hid hmin
  clear hmin
  go_enter Tryd.func7, Tryd.ntmps7
  go_wp2_with fail
  refine (head_any _ HT.out).mono ?_
  rintro e w1 ⟨rfl, hw1⟩
  have hT1 := Lib.hid (HT.out.below hw1 HT.out.1)
  go_upto_region 3 with fail
  go_cut [7] (fun v wx => w1 = wx ∧ v = .int .i64 (n : Int))
  case first =>
    go_wp2_with fail
    all_goals go_meet
    all_goals exact ⟨rfl, congrArg (Value.int .i64) (by have := HM.out; omega)⟩
  case rest =>
    obtain ⟨rfl, rfl⟩ := hcut
    by_cases h2k : (2000 : Int) < (n : Int)
    · go_wp2_with fail
      go_ret
      exact ⟨rfl, hw1⟩
    · have d2k : decide ((2000 : Int) < (n : Int)) = false := by simp; omega
      have ha1 := hr1.below hw1
      have ha2 := hr2.below hw1
      have ha3 := hr3.below hw1
      have hL1 : Hid (l1.length = n1) := Lib.hid (by have := hr1.1; rwa [bys_len] at this)
      have hL2 : Hid (l2.length = n2) := Lib.hid (by have := hr2.1; rwa [bys_len] at this)
      have hL3 : Hid (l3.length = n3) := Lib.hid (by have := hr3.1; rwa [bys_len] at this)
      have hs1 := hw1.size
      have hbx := (Buf.new w1 w1.heap.size 5 #[] (0, 0) (Nat.le_refl _) (by unfold maxLen; simp)).alloc (.cells #[] 5)
      have hby : Buf ((w1.alloc (.cells #[] 5)).alloc (.cells #[] 5)) w1.heap.size (.slice (some ⟨w1.heap.size + 1, 0, none⟩) 0 0) 0 [] := by
        have := Buf.new (w1.alloc (.cells #[] 5)) w1.heap.size 5 #[] (0, 0) (by simp) (by unfold maxLen; simp)
        simpa using this
      have hbel : Below w1.heap.size w1 ((w1.alloc (.cells #[] 5)).alloc (.cells #[] 5)) := ((Below.refl _ _).alloc (Nat.le_refl _) _).alloc (by simp) _
      go_wp2_with fail
      go_loopg [8, 9, 10] n (fun k vx vy i wr => ∃ j, k = n - j ∧ j ≤ n ∧ i = .int .i64 j ∧ Below w1.heap.size w1 wr ∧ Apart vx vy ∧ Buf wr w1.heap.size vx j (bys (zt l1 l3 j)) ∧ Buf wr w1.heap.size vy j (bys (zt l2 l3 j)))
      case atStart =>
        refine ⟨0, rfl, Nat.zero_le _, rfl, hbel, ?_, hbx, hby⟩
        intro k hk hk'
        simp [Value.ownBlock] at hk hk'
        omega
      case round =>
        obtain ⟨j, hk, hj, rfl, hbw, hap, hX, hY⟩ := hrel
        have hK := Lib.hid hk
        clear hk
        have hbs := hbw.size
        have k1 := ha1.below (hbw.mono hs1)
        have k2 := ha2.below (hbw.mono hs1)
        have k3 := ha3.below (hbw.mono hs1)
        by_cases hlt : j < n
        · have hlt' : (j : Int) < (n : Int) := by omega
          have S1 := Lib.hid (zt_succ l1 l3 j (by rw [hL1.out]; omega) (by rw [hL3.out]; omega))
          have S2 := Lib.hid (zt_succ l2 l3 j (by rw [hL2.out]; omega) (by rw [hL3.out]; omega))
          have e1 := u8_xor_nat (l1.getD j 0) (l3.getD j 0) (getD_lt hb1 j) (getD_lt hb3 j)
          have e2 := u8_xor_nat (l2.getD j 0) (l3.getD j 0) (getD_lt hb2 j) (getD_lt hb3 j)
          have k2' := k2
          have k3' := k3
          obtain ⟨g1, o1, u1, rfl, hg1, hu1, hc1'⟩ := k1.at_ (k := j) (by omega)
          obtain ⟨g2, o2, u2, rfl, hg2, hu2, hc2'⟩ := k2.at_ (k := j) (by omega)
          obtain ⟨g3, o3, u3, rfl, hg3, hu3, hc3'⟩ := k3.at_ (k := j) (by omega)
          rw [bys_get l1 j (by rw [hL1.out]; omega)] at hu1
          rw [bys_get l2 j (by rw [hL2.out]; omega)] at hu2
          rw [bys_get l3 j (by rw [hL3.out]; omega)] at hu3
          injection hu1 with hu1
          injection hu2 with hu2
          injection hu3 with hu3
          subst hu1
          subst hu2
          subst hu3
          generalize l1.getD j 0 ^^^ l3.getD j 0 = z1 at *
          generalize l2.getD j 0 ^^^ l3.getD j 0 = z2 at *
          generalize l1.getD j 0 = x1 at *
          generalize l2.getD j 0 = x2 at *
          generalize l3.getD j 0 = x3 at *
          have i1 : (j : Int) < (n1 : Int) := by omega
          have i2 : (j : Int) < (n2 : Int) := by omega
          have i3 : (j : Int) < (n3 : Int) := by omega
          go_wp2
          have hg1' : g1 < wr.heap.size := by omega
          have hg2' : g2 < wr.heap.size := by omega
          have hg3' : g3 < wr.heap.size := by omega
          refine wp_region_noPanic ?_
          refine wp_region_held_drew (S := (fun w => w.cell? ⟨g1, o1 + j, none⟩ = some (.int .u8 (x1 : Int)) ∧ w.cell? ⟨g3, o3 + j, none⟩ = some (.int .u8 (x3 : Int)))) (by kernel_rfl) (⟨hc1', hc3'⟩) (fun hHeld => ?_)
          refine wpAnyH_take (i := 0) (v := ?_) (by simp only [List.getElem?_toArray, List.getElem?_cons_succ, List.getElem?_cons_zero]; rfl) (by kernel_rfl) (by kernel_rfl) (by kernel_rfl) (fun _ _ _ h => h) (Or.inl ⟨by rfl, ?_⟩) (by assumption) ?_
          rotate_left
          · (intro w hSw; (try dsimp only at hSw); (try obtain ⟨hSw1, hSw2⟩ := hSw); go_simp; (try with_reducible rfl))
          (try simp only [Act.put, List.setIfInBounds_toArray, List.set_cons_zero, List.set_cons_succ])
          refine wpAnyH_take (i := 1) (v := ?_) (by simp only [List.getElem?_toArray, List.getElem?_cons_succ, List.getElem?_cons_zero]; rfl) (by kernel_rfl) (by kernel_rfl) (by kernel_rfl) (fun _ _ _ h => h) (Or.inl ⟨by rfl, ?_⟩) (by assumption) ?_
          rotate_left
          · (intro w hSw; (try dsimp only at hSw); (try obtain ⟨hSw1, hSw2⟩ := hSw); go_simp; (try with_reducible rfl))
          (try simp only [Act.put, List.setIfInBounds_toArray, List.set_cons_zero, List.set_cons_succ])
          refine wpAnyH_take (i := 2) (v := ?_) (by simp only [List.getElem?_toArray, List.getElem?_cons_succ, List.getElem?_cons_zero]; rfl) (by kernel_rfl) (by kernel_rfl) (by kernel_rfl) (fun _ _ _ h => h) (Or.inl ⟨by rfl, ?_⟩) (by assumption) ?_
          rotate_left
          · (intro w hSw; (try dsimp only at hSw); (try obtain ⟨hSw1, hSw2⟩ := hSw); go_simp; (try with_reducible rfl))
          (try simp only [Act.put, List.setIfInBounds_toArray, List.set_cons_zero, List.set_cons_succ])
          refine wpAnyH_take (i := 3) (v := ?_) (by simp only [List.getElem?_toArray, List.getElem?_cons_succ, List.getElem?_cons_zero]; rfl) (by kernel_rfl) (by kernel_rfl) (by kernel_rfl) (fun _ _ _ h => h) (Or.inl ⟨by rfl, ?_⟩) (by assumption) ?_
          rotate_left
          · (intro w hSw; (try dsimp only at hSw); (try obtain ⟨hSw1, hSw2⟩ := hSw); go_simp; (try with_reducible rfl))
          (try simp only [Act.put, List.setIfInBounds_toArray, List.set_cons_zero, List.set_cons_succ])
          refine wpAnyH_take (i := 4) (v := ?_) (by simp only [List.getElem?_toArray, List.getElem?_cons_succ, List.getElem?_cons_zero]; rfl) (by kernel_rfl) (by kernel_rfl) (by kernel_rfl) (fun _ _ _ h => h) (Or.inl ⟨by rfl, ?_⟩) (by assumption) ?_
          rotate_left
          · (intro w hSw; (try dsimp only at hSw); (try obtain ⟨hSw1, hSw2⟩ := hSw); go_simp; (try with_reducible rfl))
          (try simp only [Act.put, List.setIfInBounds_toArray, List.set_cons_zero, List.set_cons_succ])
          refine wpAnyH_take (i := 5) (v := ?_) (by simp only [List.getElem?_toArray, List.getElem?_cons_succ, List.getElem?_cons_zero]; rfl) (by kernel_rfl) (by kernel_rfl) (by kernel_rfl) (fun _ _ _ h => h) (Or.inl ⟨by rfl, ?_⟩) (by assumption) ?_
          rotate_left
          · (intro w hSw; (try dsimp only at hSw); (try obtain ⟨hSw1, hSw2⟩ := hSw); go_simp; (try with_reducible rfl))
          (try simp only [Act.put, List.setIfInBounds_toArray, List.set_cons_zero, List.set_cons_succ])
          refine wpAnyH_take (i := 6) (v := ?_) (by simp only [List.getElem?_toArray, List.getElem?_cons_succ, List.getElem?_cons_zero]; rfl) (by kernel_rfl) (by kernel_rfl) (by kernel_rfl) (fun _ _ _ h => h) (Or.inl ⟨by rfl, ?_⟩) (by assumption) ?_
          rotate_left
          · (intro w hSw; (try dsimp only at hSw); (try obtain ⟨hSw1, hSw2⟩ := hSw); go_simp; (try with_reducible rfl))
          (try simp only [Act.put, List.setIfInBounds_toArray, List.set_cons_zero, List.set_cons_succ])
          refine wpAnyH_take (i := 7) (v := ?_) (by simp only [List.getElem?_toArray, List.getElem?_cons_succ, List.getElem?_cons_zero]; rfl) (by kernel_rfl) (by kernel_rfl) (by kernel_rfl) (fun _ _ _ h => h) (Or.inl ⟨by rfl, ?_⟩) (by assumption) ?_
          rotate_left
          · (intro w hSw; (try dsimp only at hSw); (try obtain ⟨hSw1, hSw2⟩ := hSw); go_simp; (try with_reducible rfl))
          (try simp only [Act.put, List.setIfInBounds_toArray, List.set_cons_zero, List.set_cons_succ])
          refine wpAnyH_take (i := 8) (v := ?_) (by simp only [List.getElem?_toArray, List.getElem?_cons_succ, List.getElem?_cons_zero]; rfl) (by kernel_rfl) (by kernel_rfl) (by kernel_rfl) (fun _ _ _ h => h) (Or.inl ⟨by rfl, ?_⟩) (by assumption) ?_
          rotate_left
          · (intro w hSw; (try dsimp only at hSw); (try obtain ⟨hSw1, hSw2⟩ := hSw); go_simp; (try with_reducible rfl))
          (try simp only [Act.put, List.setIfInBounds_toArray, List.set_cons_zero, List.set_cons_succ])
          refine wpAnyH_take (i := 9) (v := ?_) (by simp only [List.getElem?_toArray, List.getElem?_cons_succ, List.getElem?_cons_zero]; rfl) (by kernel_rfl) (by kernel_rfl) (by kernel_rfl) (fun _ _ _ h => h) (Or.inl ⟨by rfl, ?_⟩) (by assumption) ?_
          rotate_left
          · (intro w hSw; (try dsimp only at hSw); (try obtain ⟨hSw1, hSw2⟩ := hSw); go_simp; (try with_reducible rfl))
          (try simp only [Act.put, List.setIfInBounds_toArray, List.set_cons_zero, List.set_cons_succ])
          refine wpAnyH_ready (rs := [10]) (by kernel_rfl) (by simp) ?_
          refine AllReadyH.cons (by simp only [List.getElem?_toArray, List.getElem?_cons_succ, List.getElem?_cons_zero]; rfl) (fun K hK => ?_) AllReadyH.nil
          go_simp

          refine hK.out _ _ ?_ (fun hHeld => ?_)
          · exact ⟨by simpa [World.cell?_alloc_past, hg1'] using hc1', by simpa [World.cell?_alloc_past, hg3'] using hc3'⟩
          clear hK K
          (try simp only [Act.put, List.setIfInBounds_toArray, List.set_cons_zero, List.set_cons_succ])
          refine wpAnyH_ready (rs := [11]) (by kernel_rfl) (by simp) ?_
          refine AllReadyH.cons (by simp only [List.getElem?_toArray, List.getElem?_cons_succ, List.getElem?_cons_zero]; rfl) (fun K hK => ?_) AllReadyH.nil
          refine operwp_append_one_drew (w := wr) (v := u8) (n := j) (xs := bys (zt l1 l3 j)) (u := .int .u8 (z1 : Int)) ?_ (.tmp 29) (.tmp 39) 22 rfl w1.heap.size 5 i0 (.int .u8 0) 1 Tryd.underlying22 hi hz0 hz1 hz2 rfl ?_ hX ?_ rfl ?_ ?_ ?_ ?_
          · kernel_rfl
          · rfl
          · rfl
          · unfold maxLen; omega
          · omega
          · (try simp only [World.drew_heap]); omega
          intro p_v p_w r1 r2 r3
          refine hK.out _ _ ?_ (fun hHeld => ?_)
          · have hB1 := (Below.refl w1.heap.size wr).grown r2 (by omega) fun k hk => (hX.lt k hk).1
            exact ⟨(hB1.cell (by simp only []; omega)).trans hc1', (hB1.cell (by simp only []; omega)).trans hc3'⟩
          clear hK K
          (try simp only [Act.put, List.setIfInBounds_toArray, List.set_cons_zero, List.set_cons_succ])
          refine wpAnyH_take (i := 12) (v := ?_) (by simp only [List.getElem?_toArray, List.getElem?_cons_succ, List.getElem?_cons_zero]; rfl) (by kernel_rfl) (by kernel_rfl) (by kernel_rfl) (fun _ _ _ h => h) (Or.inl ⟨by rfl, ?_⟩) (by assumption) ?_
          rotate_left
          · (intro w hSw; (try dsimp only at hSw); (try obtain ⟨hSw1, hSw2⟩ := hSw); go_simp; (try with_reducible rfl))
          (try simp only [Act.put, List.setIfInBounds_toArray, List.set_cons_zero, List.set_cons_succ])
          refine wpAnyH_done (by kernel_rfl) ?_ _
          refine NoPanic.normal ?_
          have hB1 := (Below.refl w1.heap.size wr).grown r2 (by omega) fun k hk => (hX.lt k hk).1
          have hl1 : Laid wr w1.heap.size u8 p_w p_v (j + 1) (bys (zt l1 l3 j) ++ [.int .u8 (z1 : Int)]) := ⟨r1, r2, r3⟩
          obtain ⟨hY1, hap1⟩ := hl1.other hY hap
          have hX1 := hl1.buf
          have hps := hB1.size
          have hd2' : p_w.cell? ⟨g2, o2 + j, none⟩ = some (.int .u8 (x2 : Int)) := (hB1.cell (by simp only []; omega)).trans hc2'
          have hd3' : p_w.cell? ⟨g3, o3 + j, none⟩ = some (.int .u8 (x3 : Int)) := (hB1.cell (by simp only []; omega)).trans hc3'
          have hbw1 := hbw.trans hB1
          clear r1 r2 r3 hl1 hB1 hc1' hc2' hc3' hX hY hap
          have hg2p : g2 < p_w.heap.size := by omega
          have hg3p : g3 < p_w.heap.size := by omega
          go_wp2
          refine wp_region_noPanic ?_
          refine wp_region_held_drew (S := (fun w => w.cell? ⟨g2, o2 + j, none⟩ = some (.int .u8 (x2 : Int)) ∧ w.cell? ⟨g3, o3 + j, none⟩ = some (.int .u8 (x3 : Int)))) (by kernel_rfl) (⟨hd2', hd3'⟩) (fun hHeld => ?_)
          refine wpAnyH_take (i := 0) (v := ?_) (by simp only [List.getElem?_toArray, List.getElem?_cons_succ, List.getElem?_cons_zero]; rfl) (by kernel_rfl) (by kernel_rfl) (by kernel_rfl) (fun _ _ _ h => h) (Or.inl ⟨by rfl, ?_⟩) (by assumption) ?_
          rotate_left
          · (intro w hSw; (try dsimp only at hSw); (try obtain ⟨hSw1, hSw2⟩ := hSw); go_simp; (try with_reducible rfl))
          (try simp only [Act.put, List.setIfInBounds_toArray, List.set_cons_zero, List.set_cons_succ])
          refine wpAnyH_take (i := 1) (v := ?_) (by simp only [List.getElem?_toArray, List.getElem?_cons_succ, List.getElem?_cons_zero]; rfl) (by kernel_rfl) (by kernel_rfl) (by kernel_rfl) (fun _ _ _ h => h) (Or.inl ⟨by rfl, ?_⟩) (by assumption) ?_
          rotate_left
          · (intro w hSw; (try dsimp only at hSw); (try obtain ⟨hSw1, hSw2⟩ := hSw); go_simp; (try with_reducible rfl))
          (try simp only [Act.put, List.setIfInBounds_toArray, List.set_cons_zero, List.set_cons_succ])
          refine wpAnyH_take (i := 2) (v := ?_) (by simp only [List.getElem?_toArray, List.getElem?_cons_succ, List.getElem?_cons_zero]; rfl) (by kernel_rfl) (by kernel_rfl) (by kernel_rfl) (fun _ _ _ h => h) (Or.inl ⟨by rfl, ?_⟩) (by assumption) ?_
          rotate_left
          · (intro w hSw; (try dsimp only at hSw); (try obtain ⟨hSw1, hSw2⟩ := hSw); go_simp; (try with_reducible rfl))
          (try simp only [Act.put, List.setIfInBounds_toArray, List.set_cons_zero, List.set_cons_succ])
          refine wpAnyH_take (i := 3) (v := ?_) (by simp only [List.getElem?_toArray, List.getElem?_cons_succ, List.getElem?_cons_zero]; rfl) (by kernel_rfl) (by kernel_rfl) (by kernel_rfl) (fun _ _ _ h => h) (Or.inl ⟨by rfl, ?_⟩) (by assumption) ?_
          rotate_left
          · (intro w hSw; (try dsimp only at hSw); (try obtain ⟨hSw1, hSw2⟩ := hSw); go_simp; (try with_reducible rfl))
          (try simp only [Act.put, List.setIfInBounds_toArray, List.set_cons_zero, List.set_cons_succ])
          refine wpAnyH_take (i := 4) (v := ?_) (by simp only [List.getElem?_toArray, List.getElem?_cons_succ, List.getElem?_cons_zero]; rfl) (by kernel_rfl) (by kernel_rfl) (by kernel_rfl) (fun _ _ _ h => h) (Or.inl ⟨by rfl, ?_⟩) (by assumption) ?_
          rotate_left
          · (intro w hSw; (try dsimp only at hSw); (try obtain ⟨hSw1, hSw2⟩ := hSw); go_simp; (try with_reducible rfl))
          (try simp only [Act.put, List.setIfInBounds_toArray, List.set_cons_zero, List.set_cons_succ])
          refine wpAnyH_take (i := 5) (v := ?_) (by simp only [List.getElem?_toArray, List.getElem?_cons_succ, List.getElem?_cons_zero]; rfl) (by kernel_rfl) (by kernel_rfl) (by kernel_rfl) (fun _ _ _ h => h) (Or.inl ⟨by rfl, ?_⟩) (by assumption) ?_
          rotate_left
          · (intro w hSw; (try dsimp only at hSw); (try obtain ⟨hSw1, hSw2⟩ := hSw); go_simp; (try with_reducible rfl))
          (try simp only [Act.put, List.setIfInBounds_toArray, List.set_cons_zero, List.set_cons_succ])
          refine wpAnyH_take (i := 6) (v := ?_) (by simp only [List.getElem?_toArray, List.getElem?_cons_succ, List.getElem?_cons_zero]; rfl) (by kernel_rfl) (by kernel_rfl) (by kernel_rfl) (fun _ _ _ h => h) (Or.inl ⟨by rfl, ?_⟩) (by assumption) ?_
          rotate_left
          · (intro w hSw; (try dsimp only at hSw); (try obtain ⟨hSw1, hSw2⟩ := hSw); go_simp; (try with_reducible rfl))
          (try simp only [Act.put, List.setIfInBounds_toArray, List.set_cons_zero, List.set_cons_succ])
          refine wpAnyH_take (i := 7) (v := ?_) (by simp only [List.getElem?_toArray, List.getElem?_cons_succ, List.getElem?_cons_zero]; rfl) (by kernel_rfl) (by kernel_rfl) (by kernel_rfl) (fun _ _ _ h => h) (Or.inl ⟨by rfl, ?_⟩) (by assumption) ?_
          rotate_left
          · (intro w hSw; (try dsimp only at hSw); (try obtain ⟨hSw1, hSw2⟩ := hSw); go_simp; (try with_reducible rfl))
          (try simp only [Act.put, List.setIfInBounds_toArray, List.set_cons_zero, List.set_cons_succ])
          refine wpAnyH_take (i := 8) (v := ?_) (by simp only [List.getElem?_toArray, List.getElem?_cons_succ, List.getElem?_cons_zero]; rfl) (by kernel_rfl) (by kernel_rfl) (by kernel_rfl) (fun _ _ _ h => h) (Or.inl ⟨by rfl, ?_⟩) (by assumption) ?_
          rotate_left
          · (intro w hSw; (try dsimp only at hSw); (try obtain ⟨hSw1, hSw2⟩ := hSw); go_simp; (try with_reducible rfl))
          (try simp only [Act.put, List.setIfInBounds_toArray, List.set_cons_zero, List.set_cons_succ])
          refine wpAnyH_take (i := 9) (v := ?_) (by simp only [List.getElem?_toArray, List.getElem?_cons_succ, List.getElem?_cons_zero]; rfl) (by kernel_rfl) (by kernel_rfl) (by kernel_rfl) (fun _ _ _ h => h) (Or.inl ⟨by rfl, ?_⟩) (by assumption) ?_
          rotate_left
          · (intro w hSw; (try dsimp only at hSw); (try obtain ⟨hSw1, hSw2⟩ := hSw); go_simp; (try with_reducible rfl))
          (try simp only [Act.put, List.setIfInBounds_toArray, List.set_cons_zero, List.set_cons_succ])
          refine wpAnyH_ready (rs := [10]) (by kernel_rfl) (by simp) ?_
          refine AllReadyH.cons (by simp only [List.getElem?_toArray, List.getElem?_cons_succ, List.getElem?_cons_zero]; rfl) (fun K hK => ?_) AllReadyH.nil
          go_simp

          refine hK.out _ _ ?_ (fun hHeld => ?_)
          · exact ⟨by simpa [World.cell?_alloc_past, hg2p] using hd2', by simpa [World.cell?_alloc_past, hg3p] using hd3'⟩
          clear hK K
          (try simp only [Act.put, List.setIfInBounds_toArray, List.set_cons_zero, List.set_cons_succ])
          refine wpAnyH_ready (rs := [11]) (by kernel_rfl) (by simp) ?_
          refine AllReadyH.cons (by simp only [List.getElem?_toArray, List.getElem?_cons_succ, List.getElem?_cons_zero]; rfl) (fun K hK => ?_) AllReadyH.nil
          refine operwp_append_one_drew (w := p_w) (v := u9) (n := j) (xs := bys (zt l2 l3 j)) (u := .int .u8 (z2 : Int)) ?_ (.tmp 41) (.tmp 51) 22 rfl w1.heap.size 5 i0 (.int .u8 0) 1 Tryd.underlying22 hi hz0 hz1 hz2 rfl ?_ hY1 ?_ rfl ?_ ?_ ?_ ?_
          · kernel_rfl
          · rfl
          · rfl
          · unfold maxLen; omega
          · omega
          · (try simp only [World.drew_heap]); omega
          intro q_v q_w r1 r2 r3
          refine hK.out _ _ ?_ (fun hHeld => ?_)
          · have hB1 := (Below.refl w1.heap.size p_w).grown r2 (by omega) fun k hk => (hY1.lt k hk).1
            exact ⟨(hB1.cell (by simp only []; omega)).trans hd2', (hB1.cell (by simp only []; omega)).trans hd3'⟩
          clear hK K
          (try simp only [Act.put, List.setIfInBounds_toArray, List.set_cons_zero, List.set_cons_succ])
          refine wpAnyH_take (i := 12) (v := ?_) (by simp only [List.getElem?_toArray, List.getElem?_cons_succ, List.getElem?_cons_zero]; rfl) (by kernel_rfl) (by kernel_rfl) (by kernel_rfl) (fun _ _ _ h => h) (Or.inl ⟨by rfl, ?_⟩) (by assumption) ?_
          rotate_left
          · (intro w hSw; (try dsimp only at hSw); (try obtain ⟨hSw1, hSw2⟩ := hSw); go_simp; (try with_reducible rfl))
          (try simp only [Act.put, List.setIfInBounds_toArray, List.set_cons_zero, List.set_cons_succ])
          refine wpAnyH_done (by kernel_rfl) ?_ _
          refine NoPanic.normal ?_
          have hB1 := (Below.refl w1.heap.size p_w).grown r2 (by omega) fun k hk => (hY1.lt k hk).1
          have hl1 : Laid p_w w1.heap.size u9 q_w q_v (j + 1) (bys (zt l2 l3 j) ++ [.int .u8 (z2 : Int)]) := ⟨r1, r2, r3⟩
          obtain ⟨hX2, hap2⟩ := hl1.other hX1 hap1.symm
          have hY2 := hl1.buf
          have hbw2 := hbw1.trans hB1
          clear r1 r2 r3 hl1 hB1 hX1 hY1 hap1 hbw1 hd2' hd3'
          go_wp2
          go_roundg (n - (j + 1))
          case measure => have := hK.out; omega
          case rel =>
            refine ⟨j + 1, rfl, by omega, by go_num, hbw2, hap2.symm, ?_, ?_⟩
            · rw [S1.out]; simpa [bys] using hX2
            · rw [S2.out]; simpa [bys] using hY2
        · obtain rfl : n = j := by omega
          have hd1 : decide ((n : Int) < (n : Int)) = false := by simp
          obtain ⟨AX, cX, rfl, hcX, hrX⟩ := hX.slice
          obtain ⟨AY, cY, rfl, hcY, hrY⟩ := hY.slice
          have hTr := Lib.hid (hT1.out.below hbw hT1.out.1)
          have t1 : Rd wr w.heap.size A1 n (bys (l1.take n)) := by have := k1.take n hn1; rwa [show (bys l1).take n = bys (l1.take n) by simp [bys, List.map_take]] at this
          have t2 : Rd wr w.heap.size A2 n (bys (l2.take n)) := by have := k2.take n hn2; rwa [show (bys l2).take n = bys (l2.take n) by simp [bys, List.map_take]] at this
          have hfin := hw1.trans (hbw.mono hs1)
          have m1 : ∀ c ∈ l1.take n, c < 256 := fun c hc => hb1 c (List.mem_of_mem_take hc)
          have m2 : ∀ c ∈ l2.take n, c < 256 := fun c hc => hb2 c (List.mem_of_mem_take hc)
          have m3 : ∀ c ∈ l3.take n, c < 256 := fun c hc => hb3 c (List.mem_of_mem_take hc)
          have mX : ∀ c ∈ zt l1 l3 n, c < 256 := zx_lt _ _ m1 m3
          have mY : ∀ c ∈ zt l2 l3 n, c < 256 := zx_lt _ _ m2 m3
          have hn9 : n ≤ 1000000000 := by omega
          have C1 := fun k => sum_quiet A1 n c1 (l1.take n) wr _ t1 m1 hn9 hTr.out k
          have C2 := fun k => sum_quiet A2 n c2 (l2.take n) wr _ t2 m2 hn9 hTr.out k
          have CX := fun k => sum_quiet AX n cX (zt l1 l3 n) wr _ hrX mX hn9 hTr.out k
          have CY := fun k => sum_quiet AY n cY (zt l2 l3 n) wr _ hrY mY hn9 hTr.out k
          have E1 := sum_turn (l1.take n) (l3.take n) (by rw [List.length_take, List.length_take, hL1.out, hL3.out]; omega)
          have E2 := sum_turn (l2.take n) (l3.take n) (by rw [List.length_take, List.length_take, hL2.out, hL3.out]; omega)
          have n0 : nt 0 < 4294967296 := nt_lt 0 (by omega)
          have L1 := nt_lt _ (crcR_lt (l1.take n) (nt 0) n0 m1)
          have L2 := nt_lt _ (crcR_lt (l2.take n) (nt 0) n0 m2)
          have LX := nt_lt _ (crcR_lt (zt l1 l3 n) (nt 0) n0 mX)
          have LY := nt_lt _ (crcR_lt (zt l2 l3 n) (nt 0) n0 mY)
          rw [← show zt l1 l3 n = zx (l1.take n) (l3.take n) from rfl] at E1
          rw [← show zt l2 l3 n = zx (l2.take n) (l3.take n) from rfl] at E2
          generalize nt (crcR (nt 0) (l1.take n)) = q1 at *
          generalize nt (crcR (nt 0) (l2.take n)) = q2 at *
          generalize nt (crcR (nt 0) (zt l1 l3 n)) = qX at *
          generalize nt (crcR (nt 0) (zt l2 l3 n)) = qY at *
          generalize crcR 0 (l3.take n) = qq at *
          have F1 : bits .xor .u32 (q1 : Int) (qX : Int) = (qq : Int) := by rw [u32_xor_nat q1 qX L1 LX, E1]
          have F2 : bits .xor .u32 (q2 : Int) (qY : Int) = (qq : Int) := by rw [u32_xor_nat q2 qY L2 LY, E2]
          clear k1 k2 k3 hX hY hap ha1 ha2 ha3 hr1 hr2 hr3 hbel hbx hby t1 t2 hrX hrY m1 m2 m3 mX mY E1 E2 L1 L2 LX LY n0 hb1 hb2 hb3
          have i1 : (n : Int) ≤ (c1 : Int) := by omega
          have i2 : (n : Int) ≤ (c2 : Int) := by omega
          go_wp2_with fail
          go_quiet ((go_at_call 10; first | exact C1 _ | exact C2 _ | exact CX _ | exact CY _))
          go_wp2
          go_ret
          exact ⟨rfl, ⟨hfin.os, hfin.tape, hfin.output, hfin.size, hfin.block⟩⟩
end Go.Proofs.YtkbdmbefhndlcabDoor
