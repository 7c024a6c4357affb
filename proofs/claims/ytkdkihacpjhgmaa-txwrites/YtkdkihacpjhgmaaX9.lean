/- Walks: (tx.Tx).Encode. -/
import Derived.Test.YtkdkihacpjhgmaaX8
namespace Go.Proofs.Ytkdkihacpjhgmaa
set_option linter.unusedSimpArgs false
set_option linter.unusedVariables false
open Go.RowKit

theorem lay_any (b : Bool) (w : World) (t : MTx) (h : TxAt w w.heap.size t) (hN : (layB t.p b).length ≤ 100000000) :
    Calls Try.prog 21 #[t.val, .bool b] w fun e w' => ∃ v', e = .returned v' ∧ Buf w' w.heap.size v' (layB t.p b).length (bys (layB t.p b)) ∧ Below w.heap.size w w' := by
  cases b with
  | false => exact layF_any w t h hN
  | true => exact layT_any w t h hN

theorem any_no {l : List (List Nat)} {n : Nat} (h : l.any (fun p => decide (n < p.length)) = false) : sumL l ≤ l.length * n := by
  induction l with
  | nil => simp [sumL]
  | cons x r ih =>
    simp only [List.any_cons, Bool.or_eq_false_iff, decide_eq_false_iff_not] at h
    have := ih h.2
    have h1 := h.1
    simp only [sumL, List.length_cons, Nat.succ_mul]
    omega
theorem chkI_no {x : TIn} (h : chkI x = 0) : x.wit.length ≤ 100 ∧ x.sc.length ≤ 10000 ∧ sumL x.wit ≤ 1000000 := by
  unfold chkI at h
  split at h
  · omega
  · next h1 =>
    split at h
    · omega
    · next h2 =>
      split at h
      · omega
      · next h3 =>
        have := any_no (by simpa using h3)
        have h4 : x.wit.length * 10000 ≤ 100 * 10000 := Nat.mul_le_mul_right _ (by omega)
        exact ⟨by omega, by omega, by omega⟩
theorem chkL_cons {x : TIn} {r : List TIn} (h : chkL (x :: r) = 0) : chkI x = 0 ∧ chkL r = 0 := by
  simp only [chkL] at h
  by_cases h0 : chkI x = 0
  · rw [if_pos h0] at h; exact ⟨h0, h⟩
  · rw [if_neg h0] at h; exact absurd h h0
theorem sumI_few : ∀ {l : List TIn}, chkL l = 0 → sumI l ≤ l.length * 1010000
  | [], _ => by simp [sumI]
  | x :: r, h => by
    obtain ⟨h1, h2⟩ := chkL_cons h
    have := sumI_few h2
    have h3 := chkI_no h1
    simp only [sumI, List.length_cons, Nat.succ_mul]
    omega
theorem sumO_few {l : List TOut} (h : l.any (fun o => decide (10000 < o.sc.length)) = false) : sumO l ≤ l.length * 10000 := by
  induction l with
  | nil => simp [sumO]
  | cons x r ih =>
    simp only [List.any_cons, Bool.or_eq_false_iff, decide_eq_false_iff_not] at h
    have := ih h.2
    have h1 := h.1
    simp only [sumO, List.length_cons, Nat.succ_mul]
    omega
theorem txt_le (s : List Nat) : (txt s).length ≤ 9 + s.length := by unfold txt; rw [List.length_append]; have := compB_le s.length; omega
theorem txts_le (l : List (List Nat)) : (l.flatMap txt).length ≤ l.length * 9 + sumL l := by
  induction l with
  | nil => simp [sumL]
  | cons x r ih =>
    have := txt_le x
    simp only [List.flatMap_cons, List.length_append, sumL, List.length_cons, Nat.succ_mul]
    omega
theorem ins_le : ∀ {l : List TIn}, chkL l = 0 → (∀ x ∈ l, x.id.length = 32) → (l.flatMap inB).length + (l.flatMap witB).length ≤ sumI l + l.length * 958
  | [], _, _ => by simp [sumI]
  | x :: r, h, hi => by
    obtain ⟨h1, h2⟩ := chkL_cons h
    have ih := ins_le h2 (fun y hy => hi y (by simp [hy]))
    have h3 := chkI_no h1
    have h4 := inB_len x (hi x (by simp))
    have h5 := txt_le x.sc
    have h6 := txts_le x.wit
    have h7 : (witB x).length ≤ 9 + (x.wit.flatMap txt).length := by unfold witB; rw [List.length_append]; have := compB_le x.wit.length; omega
    simp only [List.flatMap_cons, List.length_append, sumI, List.length_cons, Nat.succ_mul]
    omega
theorem outs_le (l : List TOut) : (l.flatMap outB).length ≤ sumO l + l.length * 17 := by
  induction l with
  | nil => simp [sumO]
  | cons x r ih =>
    have h5 := txt_le x.sc
    have h6 : (outB x).length = 8 + (txt x.sc).length := by unfold outB; rw [List.length_append, M.leB_len]
    simp only [List.flatMap_cons, List.length_append, sumO, List.length_cons, Nat.succ_mul]
    omega
structure ChkOk (t : PTx) : Prop where
  i0 : t.ins.length ≠ 0
  o0 : t.outs.length ≠ 0
  i1 : t.ins.length ≤ 1024
  o1 : t.outs.length ≤ 1024
  ci : chkL t.ins = 0
  co : t.outs.any (fun o => decide (10000 < o.sc.length)) = false
theorem chk_ok {t : PTx} (h : chk t = 0) : ChkOk t := by
  unfold chk at h
  split at h
  · omega
  · next h1 =>
    split at h
    · omega
    · next h2 =>
      split at h
      · next h3 => exact absurd h h3
      · next h3 =>
        split at h
        · omega
        · next h4 => exact ⟨by omega, by omega, by omega, by omega, by omega, by simpa using h4⟩
theorem textN_few {t : PTx} (h : chk t = 0) : textN t ≤ 2000000000 := by
  have k := chk_ok h
  have h1 := sumI_few k.ci
  have h2 := sumO_few k.co
  have h3 : t.ins.length * 1010000 ≤ 1024 * 1010000 := Nat.mul_le_mul_right _ k.i1
  have h4 : t.outs.length * 10000 ≤ 1024 * 10000 := Nat.mul_le_mul_right _ k.o1
  unfold textN
  omega
theorem layB_few {t : PTx} (h : chk t = 0) (hi : ∀ x ∈ t.ins, x.id.length = 32) (b : Bool) : (layB t b).length ≤ textN t + 1000000 := by
  have k := chk_ok h
  have h1 := ins_le k.ci hi
  have h2 := outs_le t.outs
  have h3 : t.ins.length * 958 ≤ 1024 * 958 := Nat.mul_le_mul_right _ k.i1
  have h4 : t.outs.length * 17 ≤ 1024 * 17 := Nat.mul_le_mul_right _ k.o1
  have h5 := compB_le t.ins.length
  have h6 := compB_le t.outs.length
  have h7 : (preB t b).length ≤ 6 := by unfold preB; rw [List.length_append, M.leB_len]; cases b <;> simp
  have h8 : (if b then t.ins.flatMap witB else []).length ≤ (t.ins.flatMap witB).length := by cases b <;> simp
  unfold layB textN
  simp only [List.length_append, M.leB_len]
  omega

set_option maxHeartbeats 4000000 in
set_option maxRecDepth 100000 in
theorem encode_any (w : World) (B : Nat) (t : MTx) (h : TxAt w B t) (hB : B ≤ w.heap.size) :
    Calls Try.prog 10 #[t.val] w fun e w' => ∃ v', e = .returned (.tuple #[v', .int .i64 (encE t.p : Int)]) ∧ (encE t.p = 0 → Buf w' w.heap.size v' (layB t.p (hasW t.p)).length (bys (layB t.p (hasW t.p)))) ∧ (encE t.p ≠ 0 → v' = .slice none 0 0) ∧ Below w.heap.size w w' := by
  have HT := Lib.hid (h.up hB)
  have HENC : Hid (encE t.p = if chk t.p ≠ 0 then chk t.p else if 65536 < textN t.p then 6 else if 65536 < (layB t.p (hasW t.p)).length then 6 else 0) := Lib.hid rfl
  generalize encE t.p = R at *
  have HTX := Lib.hid (fun h0 => textN_few (t := t.p) h0)
  have HLY := Lib.hid (fun h0 b => layB_few (t := t.p) h0 (by
    intro x hx
    simp only [MTx.p, List.mem_map] at hx
    obtain ⟨y, hy, rfl⟩ := hx
    exact (h.iat y hy).ok.id) b)
  obtain ⟨TC, hTC⟩ : ∃ TC : List Value, TC = [.int .i32 t.ver, .slice t.ia t.ins.length t.ic, .slice t.oa t.outs.length t.oc, .int .u32 (t.lock : Int)] := ⟨_, rfl⟩
  have hval : t.val = .agg TC.toArray := by rw [hTC]; rfl
  have hlen : TC.length = 4 := by rw [hTC]; rfl
  obtain ⟨W3, e3⟩ : ∃ W3, W3 = w.alloc (.cells TC.toArray 26) := ⟨_, rfl⟩
  have hB3 : Below w.heap.size w W3 := by rw [e3]; exact (Below.refl _ _).alloc (Nat.le_refl _) _
  have k0 : Blk W3 w.heap.size 26 TC.toArray := by rw [e3]; exact Blk.new _ _ _
  have s3 : W3.heap.size = w.heap.size + 1 := by rw [e3]; simp
  have HSZ := Lib.hid (show (Try.prog.info? 26).map (·.size) = some TC.length by rw [hlen]; kernel_rfl)
  have HRG : Hid (∀ wx, Below W3.heap.size W3 wx → wx.rangeAt w.heap.size 0 TC) := Lib.hid (fun wx hx => rangeAt_below (show W3.rangeAt w.heap.size 0 TC from k0.range) hx k0.lt)
  have HB3 := Lib.hid hB3
  have HE3 := Lib.hid e3
  have HS3 := Lib.hid s3
  have HTA : Hid (∀ wx, Below W3.heap.size W3 wx → TxAt wx w.heap.size t ∧ w.heap.size ≤ wx.heap.size ∧ Below w.heap.size w wx) := Lib.hid (fun wx hx => by
    have h1 : Below w.heap.size w wx := HB3.out.trans (hx.mono HB3.out.size)
    exact ⟨HT.out.below h1, h1.size, h1⟩)
  have HCK := Lib.hid (fun wx hx => check_any wx w.heap.size t (HTA.out wx hx).1 (HTA.out wx hx).2.1)
  have HTB := Lib.hid (fun wx hx hn => textBytes_any wx w.heap.size t (HTA.out wx hx).1 (HTA.out wx hx).2.1 hn)
  have HHW := Lib.hid (fun wx hx => hasW_any wx w.heap.size t (HTA.out wx hx).1 (HTA.out wx hx).2.1)
  have HLA := Lib.hid (fun b wx hx hn => lay_any b wx t ((HTA.out wx hx).1.up (HTA.out wx hx).2.1) hn)
  rw [hval] at HCK HTB HHW HLA ⊢
  have g3 := HRG.out W3 (Below.refl _ _)
  have HG3 := Lib.hid g3
  clear hTC hval hlen e3 hB3 k0 s3 h g3
  go_enter Try.func10, Try.ntmps10
  go_upto_region 1 with fail
  rw [← HE3.out]
  go_wp2_with ((refine wpList_load_mid rfl 26 (.tmp 1) rfl w.heap.size 0 rfl TC _ HG3.out Try.underlying26 rfl HSZ.out ?_))
  refine (HCK.out _ (Below.refl _ _)).mono ?_
  rintro e w4 ⟨rfl, hb4⟩
  have HB4 := Lib.hid hb4
  clear hb4
  by_cases hc : chk t.p = 0
  · have ht := HTX.out hc
    rw [if_neg (by simpa using hc)] at HENC
    have HLY2 := Lib.hid (HLY.out hc)
    rw [hc]
    have HC0 := Lib.hid hc
    have HG4 := Lib.hid (HRG.out w4 HB4.out)
    have HTB2 := Lib.hid (HTB.out w4 HB4.out (by omega))
    have hti : (textN t.p : Int) ≤ 2000000000 := by omega
    clear hc ht
    go_wp2_with ((refine wpList_load_mid rfl 26 (.tmp 1) rfl w.heap.size 0 rfl TC _ HG4.out Try.underlying26 rfl HSZ.out ?_))
    refine HTB2.out.mono ?_
    rintro e w5 ⟨rfl, hb5⟩
    have HB5 := Lib.hid (HB4.out.trans (hb5.mono HB4.out.size))
    clear hb5
    by_cases hx : 65536 < textN t.p
    · have hx' : (65536 : Int) < (textN t.p : Int) := by omega
      have HR : Hid (R = 6) := Lib.hid (by rw [HENC.out, if_pos hx])
      clear hx
      go_wp2
      go_ret2
      rw [HR.out]
      exact ⟨_, rfl, fun h => absurd h (by decide), fun _ => rfl, (HTA.out _ HB5.out).2.2⟩
    · have hx' : ¬ (65536 : Int) < (textN t.p : Int) := by omega
      rw [if_neg hx] at HENC
      have HLN : Hid (∀ b, (layB t.p b).length ≤ 100000000) := Lib.hid (fun b => by have := HLY2.out b; omega)
      clear hx
      generalize hW : hasW t.p = hw at *
      have HWE := Lib.hid hW
      clear hW
      have hb5 := HB5.out
      go_upto_region 6 with fail
      refine wp_region_noPanic ?_
      refine wp_region_held_drew (S := (fun wx => Below W3.heap.size W3 wx)) (by kernel_rfl) (Below.drew' hb5) (fun hHeld => ?_)
      refine wpAnyH_take (i := 0) (v := .agg (TC).toArray) (by simp only [List.getElem?_toArray, List.getElem?_cons_succ, List.getElem?_cons_zero]; rfl) (by kernel_rfl) (by kernel_rfl) (by kernel_rfl) (fun _ _ _ h => h) (yieldsIf_load_mid (by rfl) 26 (.tmp 1) rfl w.heap.size (0) rfl (TC) _ (fun wx hx => HRG.out wx hx) Try.underlying26 rfl (HSZ.out)) (by assumption) ?_
      (try simp only [Act.put, List.setIfInBounds_toArray, List.set_cons_zero, List.set_cons_succ])
      refine wpAnyH_take (i := 1) (v := .agg (TC).toArray) (by simp only [List.getElem?_toArray, List.getElem?_cons_succ, List.getElem?_cons_zero]; rfl) (by kernel_rfl) (by kernel_rfl) (by kernel_rfl) (fun _ _ _ h => h) (yieldsIf_load_mid (by rfl) 26 (.tmp 1) rfl w.heap.size (0) rfl (TC) _ (fun wx hx => HRG.out wx hx) Try.underlying26 rfl (HSZ.out)) (by assumption) ?_
      (try simp only [Act.put, List.setIfInBounds_toArray, List.set_cons_zero, List.set_cons_succ])
      refine wpAnyH_ready (rs := [2]) (by kernel_rfl) (by simp) ?_
      refine AllReadyH.cons (by simp only [List.getElem?_toArray, List.getElem?_cons_succ, List.getElem?_cons_zero]; rfl) (fun K hK => ?_) AllReadyH.nil
      go_simp
      refine (HHW.out _ hHeld).mono ?_
      rintro ee w6 ⟨rfl, hb6⟩
      refine hK.out _ _ ?_ (fun hHeld => ?_)
      · exact hHeld.trans (hb6.mono hHeld.size)
      clear hK K
      (try simp only [Act.put, List.setIfInBounds_toArray, List.set_cons_zero, List.set_cons_succ])
      refine wpAnyH_ready (rs := [3]) (by kernel_rfl) (by simp) ?_
      refine AllReadyH.cons (by simp only [List.getElem?_toArray, List.getElem?_cons_succ, List.getElem?_cons_zero]; rfl) (fun K hK => ?_) AllReadyH.nil
      go_simp
      refine (HLA.out hw _ hHeld (HLN.out hw)).mono ?_
      rintro ee w7 ⟨v7, rfl, bf7, hb7⟩
      have HBF := Lib.hid (bf7.base_le (HTA.out _ hHeld).2.1)
      clear bf7
      refine hK.out _ _ ?_ (fun hHeld => ?_)
      · exact hHeld.trans (hb7.mono hHeld.size)
      clear hK K
      (try simp only [Act.put, List.setIfInBounds_toArray, List.set_cons_zero, List.set_cons_succ])
      refine wpAnyH_take (i := 4) (v := ?_) (by simp only [List.getElem?_toArray, List.getElem?_cons_succ, List.getElem?_cons_zero]; rfl) (by kernel_rfl) (by kernel_rfl) (by kernel_rfl) (fun _ _ _ h => h) (Or.inl ⟨by rfl, ?_⟩) (by assumption) ?_
      rotate_left
      · (intro w hSw; (try dsimp only at hSw); go_simp; (try with_reducible rfl))
      (try simp only [Act.put, List.setIfInBounds_toArray, List.set_cons_zero, List.set_cons_succ])
      refine wpAnyH_done (by kernel_rfl) ?_ _
      refine NoPanic.normal ?_
      have HB7 := Lib.hid hHeld
      clear hb7 hb6 hb5 hHeld
      obtain ⟨A, c, rfl, hcl, hrd⟩ := HBF.out.slice
      have HFIN := HBF
      have hln := HLN.out hw
      obtain ⟨n, hn⟩ : ∃ n, n = (layB t.p hw).length := ⟨_, rfl⟩
      rw [← hn] at HENC hln hcl hrd HFIN ⊢
      have HBFn : Hid (Buf w7 w.heap.size (.slice A n c) n (bys (layB t.p hw))) := Lib.hid (by have := HBF.out; rwa [← hn] at this)
      have hlni : (n : Int) ≤ 100000000 := by omega
      have HNN := Lib.hid hn
      clear hrd hn HBF HFIN hln hcl
      by_cases hy : 65536 < n
      · have hy' : (65536 : Int) < (n : Int) := by omega
        have HR : Hid (R = 6) := Lib.hid (by rw [HENC.out, if_pos hy])
        clear hy
        go_wp2
        go_ret2
        rw [HR.out]
        exact ⟨_, rfl, fun h => absurd h (by decide), fun _ => rfl, (HTA.out _ HB7.out).2.2⟩
      · have hy' : ¬ (65536 : Int) < (n : Int) := by omega
        have HR : Hid (R = 0) := Lib.hid (by rw [HENC.out, if_neg hy])
        clear hy
        go_wp2
        go_ret2
        rw [HR.out]
        exact ⟨.slice A n c, rfl, fun _ => by rw [HWE.out, ← HNN.out]; exact HBFn.out, fun h => absurd rfl h, (HTA.out _ HB7.out).2.2⟩
  · rw [if_pos hc] at HENC
    have hz1 : ((chk t.p : Int) != 0) = true := by simp [bne]; omega
    have hz2 : ((chk t.p : Int) == 0) = false := by simp; omega
    have HR : Hid (R ≠ 0) := Lib.hid (by rw [HENC.out]; exact hc)
    rw [← HENC.out] at hz1 hz2 ⊢
    clear hc
    go_wp2
    go_ret2
    exact ⟨_, rfl, fun h => absurd h HR.out, fun _ => rfl, (HTA.out _ HB4.out).2.2⟩
end Go.Proofs.Ytkdkihacpjhgmaa
