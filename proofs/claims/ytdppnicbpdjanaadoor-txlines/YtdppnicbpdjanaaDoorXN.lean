/- The walk of the law on transactions one behind the other. -/
import Derived.Test.YtdppnicbpdjanaaDoorXM
namespace Go.Proofs.YtdppnicbpdjanaaDoor
set_option linter.unusedSimpArgs false
set_option linter.unusedVariables false
open Go.RowKit

theorem gu_hashL : Tryd.prog.eqGuardType Tryd.prog.depth 33 = false := by kernel_rfl
/-- While both rows are laid. -/
structure LnR (W wr : World) (vb : Value) (bs : List Nat) (vI : Value) (LI : List MTx) : Prop where
  b : Below W.heap.size W wr
  ob : wr.ownsRow W.heap.size 5 1 vb bs.length (bys bs)
  oi : wr.ownsRow W.heap.size 26 4 vI LI.length (LI.flatMap MTx.cells)
  ap : ∀ k, vb.ownBlock = some k → vI.ownBlock ≠ some k
section
variable {W wr wj : World} {vb vI : Value} {bs : List Nat} {LI : List MTx}
theorem LnR.more (h : LnR W wr vb bs vI LI) (t : Below wr.heap.size wr wj) : LnR W wj vb bs vI LI :=
  ⟨h.b.trans (t.mono h.b.size), ownN_below h.ob t (fun k hk => (h.ob.lt k hk).2), ownN_below h.oi t (fun k hk => (h.oi.lt k hk).2), h.ap⟩
theorem LnR.addB (h : LnR W wr vb bs vI LI) {B m : Nat} {A : Option Addr} (c : Nat) {ys : List Nat} (hr : Rd wr B A m (bys ys)) (hn : (bs.length : Int) + m ≤ 1000000) :
    ∃ v6 w6, (Builtin.append_ #[39, 39] 39 #[vb, .slice A m c]).run Tryd.prog wr = .ok v6 w6 ∧ LnR W w6 v6 (bs ++ ys) vI LI ∧ Tch wr w6 vb.ownBlock.toList := by
  obtain ⟨i0, hi, hz0, hz1, hz2⟩ := info_parts Tryd.info5
  have hyl : ys.length = m := by have := hr.1; rwa [bys_len] at this
  obtain ⟨v6, w6, q1, q2, q3, q4⟩ := run_appN (P := Tryd.prog) wr W.heap.size 39 39 5 i0 _ 1 1 Tryd.underlying39 hi hz0 hz1 hz2 rfl (by omega) h.ob (⟨by rw [hr.1]; omega, hr.2⟩ : RdN wr B 1 A m (bys ys)) (c := c) (bys_one _) (by unfold maxLen; omega) (by omega) h.b.size
  have t1 : Tch wr w6 vb.ownBlock.toList := Tch.of_grown q3 (fun k hk => by rw [hk]; simp)
  refine ⟨v6, w6, q1, ⟨h.b.trans (t1.below h.b.size (fun i hi => by simp at hi; exact (h.ob.lt i hi).1)), ?_, ownN_keep h.oi (fun k hk => t1.block k (h.oi.lt k hk).2 (fun hm => by simp at hm; exact h.ap k hm hk)), ?_⟩, t1⟩
  · rw [List.length_append, hyl, bys_app]; exact q2
  · intro k hk hk'
    rcases q4 with e | e
    · rw [e] at hk; exact h.ap k hk hk'
    · have := e k hk; have := (h.oi.lt k hk').2; omega
theorem LnR.addT (h : LnR W wr vb bs vI LI) (t : MTx) (hn : LI.length ≤ 1000000) :
    ∃ v6 w6, (Builtin.append_ #[44, 44] 44 #[vI, .slice (some ⟨wr.heap.size, 0, none⟩) 1 1]).run Tryd.prog (wr.alloc (.cells t.cells.toArray 26)) = .ok v6 w6 ∧ LnR W w6 vb bs v6 (LI ++ [t]) := by
  obtain ⟨v6, w6, q1, q2, q3, q4⟩ := app_tx wr W.heap.size vI LI.length _ h.oi t (by omega) h.b.size
  have t1 : Tch wr w6 vI.ownBlock.toList := Tch.of_grown q3 (fun k hk => by rw [hk]; simp)
  refine ⟨v6, w6, q1, ⟨h.b.trans (t1.below h.b.size (fun i hi => by simp at hi; exact (h.oi.lt i hi).1)), ownN_keep h.ob (fun k hk => t1.block k (h.ob.lt k hk).2 (fun hm => by simp at hm; exact h.ap k hk hm)), ?_, ?_⟩⟩
  · rw [List.length_append, List.flatMap_append]
    simpa using q2
  · intro k hk hk'
    rcases q4 with e | e
    · rw [e] at hk'; exact h.ap k hk hk'
    · have := e k hk'; have := (h.ob.lt k hk).2; omega
theorem LnR.new (w : World) : LnR w ((w.alloc (.cells #[] 5)).alloc (.cells #[] 26)) (.slice (some ⟨w.heap.size, 0, none⟩) 0 0) [] (.slice (some ⟨w.heap.size + 1, 0, none⟩) 0 0) [] := by
  have b1 : Below w.heap.size w (w.alloc (.cells #[] 5)) := (Below.refl _ _).alloc (Nat.le_refl _) _
  have o1 : (w.alloc (.cells #[] 5)).ownsRow w.heap.size 5 1 (.slice (some ⟨w.heap.size, 0, none⟩) 0 0) 0 [] := by
    have := World.ownsRow_lit (base := w.heap.size) (e := 5) (size := 1) w #[] 0 (by simp) (by unfold maxLen; omega) rfl
    simpa using this
  have s1 : (w.alloc (.cells #[] 5)).heap.size = w.heap.size + 1 := by simp
  have o2 : ((w.alloc (.cells #[] 5)).alloc (.cells #[] 26)).ownsRow w.heap.size 26 4 (.slice (some ⟨w.heap.size + 1, 0, none⟩) 0 0) 0 [] := by
    have := World.ownsRow_lit (base := w.heap.size) (e := 26) (size := 4) (w.alloc (.cells #[] 5)) #[] 0 (by simp) (by unfold maxLen; omega) rfl
    rw [s1] at this
    simpa using this
  exact ⟨b1.alloc (by rw [s1]; omega) _, o1.alloc _, o2, fun k hk => by simp [Value.ownBlock] at hk ⊢; omega⟩
end
def layT (t : MTx) : List Nat := layB t.p (hasW t.p)
/-- What the rows tell. -/
structure LnP (T : List MTx) (i : Nat) (bs : List Nat) (LI : List MTx) : Prop where
  eq : bs = LI.flatMap layT
  len : LI.length ≤ i
  few : bs.length ≤ i * 5000
  mem : ∀ t ∈ LI, t ∈ T ∧ encE t.p = 0
theorem LnP.skip {T : List MTx} {i : Nat} {bs : List Nat} {LI : List MTx} (h : LnP T i bs LI) : LnP T (i + 1) bs LI := ⟨h.eq, Nat.le_succ_of_le h.len, Nat.le_trans h.few (Nat.mul_le_mul_right _ (Nat.le_succ i)), h.mem⟩
theorem LnP.add {T : List MTx} {i : Nat} {bs : List Nat} {LI : List MTx} (h : LnP T i bs LI) (t : MTx) (ht : T[i]? = some t) (he : encE t.p = 0) (hl : (layT t).length < 5000) : LnP T (i + 1) (bs ++ layT t) (LI ++ [t]) :=
  ⟨by rw [h.eq, List.flatMap_append]; simp, by have := h.len; simp; omega, by have := h.few; rw [List.length_append, Nat.succ_mul]; omega, fun x hx => by
    rcases List.mem_append.1 hx with hx | hx
    · exact h.mem x hx
    · simp at hx; subst hx; exact ⟨List.mem_of_getElem? ht, he⟩⟩
theorem Rd.of1 {w : World} {B : Nat} {A : Option Addr} {n : Nat} {xs : List Value} (h : RdN w B 1 A n xs) : Rd w B A n xs := ⟨by have := h.len; omega, h.at_⟩
theorem rest_one {LI : List MTx} {j : Nat} {t : MTx} (h : LI[j]? = some t) : (LI.drop j).flatMap layT = layT t ++ (LI.drop (j + 1)).flatMap layT := by
  have hj := (List.getElem?_eq_some_iff.1 h).1
  rw [List.drop_eq_getElem_cons hj, List.flatMap_cons]
  have : LI[j] = t := (List.getElem?_eq_some_iff.1 h).2
  rw [this]

set_option maxHeartbeats 8000000 in
set_option maxRecDepth 100000 in
theorem lines_walk (A : Option Addr) (c : Nat) (T : List MTx) (w : World) (h : TxsAt w w.heap.size A c T) (ht : TabAt w) :
    Calls Tryd.prog 4 #[.slice A T.length c] w fun e w' => e = .returned (.bool true) ∧ Below w.heap.size w w' := by
  have HT := Lib.hid h
  have HTB := Lib.hid ht
  obtain ⟨N, hN⟩ : ∃ N, N = T.length := ⟨_, rfl⟩
  have hNi : (N : Int) ≤ 9223372036854775807 := by have h1 := h.lc; have h2 := h.cm; omega
  rw [← hN]
  have HN := Lib.hid hN
  clear h ht hN
  go_enter Tryd.func4, Tryd.ntmps4
  go_wp2_with fail
  refine (head_any _).mono ?_
  rintro ee w1 ⟨rfl, b1⟩
  have HB1 := Lib.hid b1
  clear b1
  by_cases h5 : (5 : Int) < (N : Int)
  · go_wp2
    go_ret
    exact ⟨rfl, HB1.out⟩
  · have H5 : Hid (N ≤ 5) := Lib.hid (by omega)
    obtain ⟨W2, e2⟩ : ∃ W2, W2 = (w1.alloc (.cells #[] 5)).alloc (.cells #[] 26) := ⟨_, rfl⟩
    have H2 : Hid (LnR w1 W2 (.slice (some ⟨w1.heap.size, 0, none⟩) 0 0) [] (.slice (some ⟨w1.heap.size + 1, 0, none⟩) 0 0) []) := Lib.hid (by rw [e2]; exact LnR.new w1)
    have HE2 := Lib.hid e2
    have HKW : Hid (∀ wx, Below w1.heap.size w1 wx → Below w.heap.size w wx ∧ TabAt wx) := Lib.hid (fun wx hx => by
      have h1 := HB1.out.trans (hx.mono HB1.out.size)
      exact ⟨h1, HTB.out.below h1 HTB.out.1⟩)
    clear e2
    go_upto_region 7 with fail
    rw [← HE2.out]
    go_upto_region 8 with fail
    go_loopg [3, 4, 6, 7, 8, 23] N (fun kx s3 s4 s6 s7 s8 s23 wr => ∃ (i : Nat) (bs : List Nat) (LI : List MTx), i ≤ N ∧ s23 = .int .i64 i ∧ N - i ≤ kx ∧ Hid (LnR w1 wr s3 bs s4 LI) ∧ Hid (LnP T i bs LI))
    case atStart => exact ⟨0, [], [], Nat.zero_le _, rfl, Nat.le_refl _, H2, Lib.hid ⟨rfl, Nat.le_refl _, by simp, by simp⟩⟩
    case round =>
      obtain ⟨i, bs, LI, hi, rfl, hk, HR, HP⟩ := hrel
      have HW := Lib.hid (HKW.out _ HR.out.b).1
      by_cases hlt : i < N
      · obtain ⟨t, htt⟩ : ∃ t, T[i]? = some t := ⟨_, List.getElem?_eq_getElem (by have := HN.out; omega)⟩
        have HTT := Lib.hid htt
        obtain ⟨g, off, hA, hg, hr⟩ := (HT.out.below HW.out).elem i t htt
        subst hA
        have HTA := Lib.hid ((HT.out.at_ t (List.mem_of_getElem? htt)).below HW.out)
        obtain ⟨ver, ins, ia, ic, outs, oa, oc, lock⟩ := t
        have q0 := hr 0 _ rfl
        have q1 := hr 1 _ rfl
        have q2 := hr 2 _ rfl
        have q3 := hr 3 _ rfl
        rw [Nat.add_zero] at q0
        simp only at q0 q1 q2 q3
        obtain ⟨W9, e9⟩ : ∃ W9, W9 = wr.alloc (.cells #[.int .i32 ver, .slice ia ins.length ic, .slice oa outs.length oc, .int .u32 (lock : Int)] 26) := ⟨_, rfl⟩
        have b9 : Below wr.heap.size wr W9 := by rw [e9]; exact (Below.refl _ _).alloc (Nat.le_refl _) _
        have k9 : Bx4 W9 wr.heap.size (.int .i32 ver) (.slice ia ins.length ic) (.slice oa outs.length oc) (.int .u32 (lock : Int)) := by rw [e9]; exact Bx4.new _ _ _ _ _ _
        have HK9 : Hid (∀ wx, Below W9.heap.size W9 wx → Bx4 wx wr.heap.size (.int .i32 ver) (.slice ia ins.length ic) (.slice oa outs.length oc) (.int .u32 (lock : Int)) ∧ LnR w1 wx u3 bs u4 LI ∧ TxAt wx wx.heap.size ⟨ver, ins, ia, ic, outs, oa, oc, lock⟩) := Lib.hid (fun wx hx => by
          have h1 := b9.trans (hx.mono b9.size)
          exact ⟨k9.keep (hx.block _ k9.lt), HR.out.more h1, (HTA.out.below (h1.mono HW.out.size)).up (Nat.le_trans HW.out.size h1.size)⟩)
        have HE9 := Lib.hid e9
        have d0 := k9.c0
        have d1 := k9.c1
        have d2 := k9.c2
        have d3 := k9.c3
        have HBG : Hid (Calls Tryd.prog 6 #[.agg #[.int .i32 ver, .slice ia ins.length ic, .slice oa outs.length oc, .int .u32 (lock : Int)]] W9 fun e w' => SomeB e ∧ Below W9.heap.size W9 w') := Lib.hid (big_some W9 W9.heap.size ⟨ver, ins, ia, ic, outs, oa, oc, lock⟩ (HK9.out _ (Below.refl _ _)).2.2 (Nat.le_refl _))
        clear htt hr b9 k9 e9
        go_upto_region 10 with fail
        rw [← HE9.out]
        clear q0 q1 q2 q3
        go_wp2_with fail
        refine HBG.out.mono ?_
        rintro ee w10 ⟨⟨bb, rfl⟩, b10⟩
        have HB10 := Lib.hid b10
        clear d0 d1 d2 d3 b10
        cases bb with
        | true =>
          go_wp2
          go_ret
          exact ⟨rfl, (HKW.out _ (HK9.out _ HB10.out).2.1.b).1⟩
        | false =>
          have k10 := (HK9.out _ HB10.out).1
          have d0 := k10.c0
          have d1 := k10.c1
          have d2 := k10.c2
          have d3 := k10.c3
          have HEN : Hid (Calls Tryd.prog 9 #[.agg #[.int .i32 ver, .slice ia ins.length ic, .slice oa outs.length oc, .int .u32 (lock : Int)]] w10 fun e w' => ∃ v', e = .returned (.tuple #[v', .int .i64 (encE (MTx.p ⟨ver, ins, ia, ic, outs, oa, oc, lock⟩) : Int)]) ∧ (encE (MTx.p ⟨ver, ins, ia, ic, outs, oa, oc, lock⟩) = 0 → Buf w' w10.heap.size v' (layT ⟨ver, ins, ia, ic, outs, oa, oc, lock⟩).length (bys (layT ⟨ver, ins, ia, ic, outs, oa, oc, lock⟩))) ∧ (encE (MTx.p ⟨ver, ins, ia, ic, outs, oa, oc, lock⟩) ≠ 0 → v' = .slice none 0 0) ∧ Below w10.heap.size w10 w') := Lib.hid (encode_any w10 w10.heap.size ⟨ver, ins, ia, ic, outs, oa, oc, lock⟩ (HK9.out _ HB10.out).2.2 (Nat.le_refl _))
          have HPA : Hid (∀ he : encE (MTx.p ⟨ver, ins, ia, ic, outs, oa, oc, lock⟩) = 0, (layT ⟨ver, ins, ia, ic, outs, oa, oc, lock⟩).length < 5000 → LnP T (i + 1) (bs ++ layT ⟨ver, ins, ia, ic, outs, oa, oc, lock⟩) (LI ++ [⟨ver, ins, ia, ic, outs, oa, oc, lock⟩])) := Lib.hid (fun he hl => HP.out.add _ HTT.out he hl)
          have HPS := Lib.hid HP.out.skip
          clear k10
          go_wp2_with fail
          refine HEN.out.mono ?_
          rintro ee w11 ⟨v', rfl, hz0, hz1, b11⟩
          have HB11 := Lib.hid (HB10.out.trans (b11.mono HB10.out.size))
          clear b11 d0 d1 d2 d3
          by_cases h0 : encE (MTx.p ⟨ver, ins, ia, ic, outs, oa, oc, lock⟩) = 0
          · have bf := hz0 h0
            have HPA2 := Lib.hid (HPA.out h0)
            rw [h0]
            obtain ⟨Ab, cb, hv', hcl, hrd⟩ := bf.slice
            subst hv'
            obtain ⟨m, hm⟩ : ∃ m, m = (layT ⟨ver, ins, ia, ic, outs, oa, oc, lock⟩).length := ⟨_, rfl⟩
            rw [← hm] at hrd HPA2 ⊢
            clear hz0 hz1 h0 bf hcl
            by_cases hm5 : (m : Int) < 5000
            · have h11 := (HK9.out _ HB11.out).2.1
              obtain ⟨v12, w12, hrun1, h12, t12⟩ := h11.addB cb hrd (by have := HP.out.few; have := H5.out; omega)
              have k12 := (HK9.out _ HB11.out).1.keep (t12.block _ (HK9.out _ HB11.out).1.lt (by
                intro hm
                simp at hm
                have := (HR.out.ob.lt _ hm).2
                omega))
              obtain ⟨v13, w13, hrun2, h13⟩ := h12.addT ⟨ver, ins, ia, ic, outs, oa, oc, lock⟩ (by have := HP.out.len; have := H5.out; omega)
              have HRUN1 := Lib.hid hrun1
              have HRUN2 := Lib.hid hrun2
              have HLIT := Lib.hid (fun parts hp => lit_tx w12 ⟨ver, ins, ia, ic, outs, oa, oc, lock⟩ parts hp)
              have H13 := Lib.hid h13
              have HPN := Lib.hid (HPA2.out (by omega))
              have d0 := k12.c0
              have d1 := k12.c1
              have d2 := k12.c2
              have d3 := k12.c3
              clear h11 hrun1 h12 t12 k12 hrun2 h13 hrd hm
              go_upto_region 15 with (show wpList _ _ _ (Oper.mk (some 43) _ _ _ _ _ :: _) _ _; refine arm_append 39 (.tmp 41) (.tmp 42) (v' := ?_) (w' := ?_) ?hr1 ?_; case hr1 => exact HRUN1.out)
              go_upto_region 16 with (first
                | (show wpList _ _ _ (Oper.mk (some 46) _ _ _ _ _ :: _) _ _; refine arm_build1 44 (.tmp 45) (v' := ?_) (w' := ?_) ?hr2 ?_; case hr2 => exact HLIT.out _ rfl)
                | (show wpList _ _ _ (Oper.mk (some 47) _ _ _ _ _ :: _) _ _; refine arm_append 44 (.tmp 44) (.tmp 46) (v' := ?_) (w' := ?_) ?hr3 ?_; case hr3 => exact HRUN2.out))
              clear d0 d1 d2 d3
              go_wp2
              go_roundg (N - (i + 1))
              case measure => omega
              case rel => exact ⟨i + 1, _, _, by omega, by go_num, Nat.le_refl _, H13, HPN⟩
            · clear hrd hm
              go_wp2
              go_roundg (N - (i + 1))
              case measure => omega
              case rel => exact ⟨i + 1, _, _, by omega, by go_num, Nat.le_refl _, Lib.hid (HK9.out _ HB11.out).2.1, HPS⟩
          · have hv := hz1 h0
            subst hv
            have hq2 : ((encE (MTx.p ⟨ver, ins, ia, ic, outs, oa, oc, lock⟩) : Int) == 0) = false := by simp; omega
            generalize (encE (MTx.p ⟨ver, ins, ia, ic, outs, oa, oc, lock⟩) : Int) = EE at *
            clear hz0 hz1 h0
            go_wp2
            go_roundg (N - (i + 1))
            case measure => omega
            case rel => exact ⟨i + 1, _, _, by omega, by go_num, Nat.le_refl _, Lib.hid (HK9.out _ HB11.out).2.1, HPS⟩
      · obtain ⟨WO, hWO⟩ : ∃ WO, WO = wr := ⟨_, rfl⟩
        rw [← hWO] at HR HW ⊢
        clear hWO wr
        obtain ⟨Ab, cb, hvb, hbc, hbm, hrb⟩ := own_rdN HR.out.ob
        obtain ⟨A4, c4, hvi, hic4, him4, hri⟩ := own_rdN HR.out.oi
        subst hvb
        subst hvi
        have HLI : Hid (∀ wx, Below WO.heap.size WO wx → TxsAt wx wx.heap.size A4 c4 LI ∧ Below w1.heap.size w1 wx) := Lib.hid (fun wx hx => by
          have h1 := HR.out.b.trans (hx.mono HR.out.b.size)
          have h2 := (HKW.out _ h1).1
          unfold maxLen at him4
          exact ⟨⟨(hri.below hx).up hx.size, fun t ht => ((HT.out.at_ t (HP.out.mem t ht).1).below h2).up h2.size, hic4, by omega⟩, h1⟩)
        have HME := Lib.hid (fun t ht => (HP.out.mem t ht).2)
        have hb0 := Rd.of1 hrb
        have hbs0 := HP.out.eq
        have hfew : bs.length ≤ 25000 := by have := HP.out.few; have := H5.out; have : i * 5000 ≤ 5 * 5000 := Nat.mul_le_mul_right _ (by omega); omega
        have HST : Hid (Rd WO WO.heap.size Ab bs.length (bys ((LI.drop 0).flatMap layT)) ∧ bs.length ≤ cb ∧ cb ≤ maxLen ∧ bs.length ≤ 25000) := Lib.hid ⟨by rw [List.drop_zero, ← hbs0]; exact hb0, hbc, hbm, hfew⟩
        obtain ⟨n, hn⟩ : ∃ n, n = LI.length := ⟨_, rfl⟩
        have hni : (n : Int) ≤ 1000000 := by have := HP.out.len; have := H5.out; omega
        have HNN := Lib.hid hn
        rw [← hn]
        generalize bs.length = nb0 at *
        have HOKF : Hid (∀ t ∈ LI, chk t.p = 0 ∧ (layT t).length ≤ 65536 ∧ t.ins.length ≤ 100000 ∧ t.outs.length ≤ 100000) := Lib.hid (fun t ht => by
          obtain ⟨h1, h2⟩ := enc_ok (HME.out t ht)
          have k := chk_ok h1
          have k1 := k.i1
          have k2 := k.o1
          simp [MTx.p] at k1 k2
          exact ⟨h1, h2, by omega, by omega⟩)
        clear hn hb0 hbs0 hfew hrb hri hbc hbm hic4 him4
        go_upto_region 18 with fail
        go_loopg [3, 10, 11, 12, 13, 51] n (fun kx s3 s10 s11 s12 s13 s51 wy => ∃ (j nb cb2 : Nat) (Ax : Option Addr), j ≤ n ∧ s51 = .int .i64 j ∧ n - j ≤ kx ∧ s3 = .slice Ax nb cb2 ∧ Hid (Below WO.heap.size WO wy) ∧ Hid (Rd WO WO.heap.size Ax nb (bys ((LI.drop j).flatMap layT)) ∧ nb ≤ cb2 ∧ cb2 ≤ maxLen ∧ nb ≤ 25000))
        case atStart => exact ⟨0, _, _, _, Nat.zero_le _, rfl, Nat.le_refl _, rfl, Lib.hid (Below.refl _ _), HST⟩
        case round =>
          clear HST
          obtain ⟨j, nb, cb2, Ax, hj, rfl, hkj, rfl, HY, HST⟩ := hrel
          by_cases hlj : j < n
          · obtain ⟨t, htt⟩ : ∃ t, LI[j]? = some t := ⟨_, List.getElem?_eq_getElem (by have := HNN.out; omega)⟩
            have hmem := List.mem_of_getElem? htt
            have HLY := HLI.out _ HY.out
            obtain ⟨g, off, hA, hg, hr⟩ := HLY.1.elem j t htt
            subst hA
            have HTA := Lib.hid (HLY.1.at_ t hmem)
            obtain ⟨hck, hle, hl1, hl2⟩ := HOKF.out t hmem
            have hrs := rest_one htt
            obtain ⟨r, hrr⟩ : ∃ r, r = (LI.drop (j + 1)).flatMap layT := ⟨_, rfl⟩
            rw [← hrr] at hrs
            have hst := HST.out
            rw [hrs] at hst
            have hb8 : B8 (layT t ++ r) := by
              intro x hx
              have key : ∀ y ∈ LI, B8 (layT y) := fun y hy => layB_b8 (HLY.1.at_ y hy).pok _
              rcases List.mem_append.1 hx with hx | hx
              · exact key t hmem x hx
              · rw [hrr] at hx
                obtain ⟨y, hy, hx⟩ := List.mem_flatMap.1 hx
                exact key y (List.mem_of_mem_drop hy) x hx
            have hde := dec_enc t.p (small_of hck HTA.out.pok) hle r
            have hnbl : nb = (layT t).length + r.length := by have := hst.1.1; rw [bys_len, List.length_append] at this; omega
            obtain ⟨p, hp⟩ : ∃ p, p = t.p := ⟨_, rfl⟩
            obtain ⟨m, hm⟩ : ∃ m, m = (layT t).length := ⟨_, rfl⟩
            have HDX : Hid (dec (layT t ++ r) = (p, m, 0)) := Lib.hid (by rw [hp, hm]; exact hde)
            obtain ⟨D, hD⟩ : ∃ D, D = idT p := ⟨_, rfl⟩
            have hDl : D.length = 32 := by rw [hD]; exact idT_len _
            have HLF : Hid ((layB p false).length ≤ 100000000) := Lib.hid (by rw [hp]; exact layF_few hck (fun x hx => (HTA.out.pok.ins x hx).id))
            have hsub : (bys (layT t ++ r)).drop m = bys r := by
              rw [bys_app, hm, List.drop_append_of_le_length (by rw [bys_len]; exact Nat.le_refl _), List.drop_of_length_le (by rw [bys_len]; exact Nat.le_refl _), List.nil_append]
            have hdr := hst.1.drop m cb2 (by omega) hst.2.1
            rw [hsub] at hdr
            have HSN : Hid (Rd WO WO.heap.size (if cb2 = m then Ax else Ax.map (·.add m)) (nb - m) (bys ((LI.drop (j + 1)).flatMap layT)) ∧ nb - m ≤ cb2 - m ∧ cb2 - m ≤ maxLen ∧ nb - m ≤ 25000) := Lib.hid ⟨by rw [← hrr]; exact hdr, by have := hst.2.1; omega, by have := hst.2.2.1; omega, by have := hst.2.2.2; omega⟩
            obtain ⟨i0, hi0, hz0, hz1, hz2⟩ := info_parts Tryd.info5
            have hsl := fun wx : World => run_slice_l (P := Tryd.prog) wx 39 5 i0 Tryd.underlying39 hi0 hz1 Ax nb cb2 m (by omega) .i64 (m : Int) rfl
            obtain ⟨A', hA'⟩ : ∃ A', A' = if cb2 = m then Ax else Ax.map (·.add m) := ⟨_, rfl⟩
            rw [← hA'] at hsl HSN
            obtain ⟨ver, ins, ia, ic, outs, oa, oc, lock⟩ := t
            have q0 := hr 0 _ rfl
            have q1 := hr 1 _ rfl
            have q2 := hr 2 _ rfl
            have q3 := hr 3 _ rfl
            rw [Nat.add_zero] at q0
            simp only at q0 q1 q2 q3
            obtain ⟨TC, hTC⟩ : ∃ TC : List Value, TC = [.int .i32 ver, .slice ia ins.length ic, .slice oa outs.length oc, .int .u32 (lock : Int)] := ⟨_, rfl⟩
            have htv : MTx.val ⟨ver, ins, ia, ic, outs, oa, oc, lock⟩ = .agg TC.toArray := by rw [hTC]; rfl
            have HSZT := Lib.hid (show (Tryd.prog.info? 26).map (·.size) = some TC.length by rw [hTC]; kernel_rfl)
            obtain ⟨W19, e19⟩ : ∃ W19, W19 = wr.alloc (.cells #[.int .i32 ver, .slice ia ins.length ic, .slice oa outs.length oc, .int .u32 (lock : Int)] 26) := ⟨_, rfl⟩
            have b19 : Below wr.heap.size wr W19 := by rw [e19]; exact (Below.refl _ _).alloc (Nat.le_refl _) _
            have k19 : Bx4 W19 wr.heap.size (.int .i32 ver) (.slice ia ins.length ic) (.slice oa outs.length oc) (.int .u32 (lock : Int)) := by rw [e19]; exact Bx4.new _ _ _ _ _ _
            have hcm2 := hst.2.2.1
            unfold maxLen at hcm2
            have HDE := Lib.hid (decode_any W19 Ax nb cb2 _ ((hst.1.below (HY.out.trans (b19.mono HY.out.size))).up (Nat.le_trans HY.out.size b19.size)) hb8 (by have := hst.2.2.2; omega) hst.2.1 (by omega))
            have HYW : Hid (∀ wx, Below W19.heap.size W19 wx → Below WO.heap.size WO wx ∧ TxAt wx wx.heap.size ⟨ver, ins, ia, ic, outs, oa, oc, lock⟩ ∧ wx.rangeAt wr.heap.size 0 TC ∧ TabAt wx) := Lib.hid (fun wx hx => by
              have h1 := HY.out.trans ((b19.trans (hx.mono b19.size)).mono HY.out.size)
              have h2 := HLI.out _ h1
              exact ⟨h1, h2.1.at_ _ hmem, by rw [hTC]; exact rangeAt_below k19.rg hx k19.lt, (HKW.out _ h2.2).2⟩)
            have HE19 := Lib.hid e19
            have HHP := Lib.hid hp
            have HDD := Lib.hid hD
            have HDL := Lib.hid hDl
            clear htt HLY hr hck hle hl1 hl2 hrs hst hb8 hde hnbl hm hsub hdr hA' hTC e19 b19 k19 hcm2 hrr hi0 hz0 hz1 hz2 hp hD hDl
            go_upto_region 20 with fail
            rw [← HE19.out]
            clear q0 q1 q2 q3
            go_wp2_with fail
            refine HDE.out.mono ?_
            rintro ee w20 ⟨x, rfl, hxp, hxa, b20⟩
            rw [HDX.out] at hxp ⊢
            simp only at hxp ⊢
            obtain ⟨_, _, hl1, hl2⟩ := HOKF.out _ hmem
            have hx1 : x.ins.length ≤ 100000 := by
              have := congrArg (fun q : PTx => q.ins.length) (hxp.trans HHP.out)
              simp [MTx.p] at this
              simp only at hl1
              omega
            have hx2 : x.outs.length ≤ 100000 := by
              have := congrArg (fun q : PTx => q.outs.length) (hxp.trans HHP.out)
              simp [MTx.p] at this
              simp only at hl2
              omega
            obtain ⟨ver2, ins2, ia2, ic2, outs2, oa2, oc2, lock2⟩ := x
            rw [show MTx.val ⟨ver2, ins2, ia2, ic2, outs2, oa2, oc2, lock2⟩ = .agg #[.int .i32 ver2, .slice ia2 ins2.length ic2, .slice oa2 outs2.length oc2, .int .u32 (lock2 : Int)] from rfl]
            obtain ⟨XC, hXC⟩ : ∃ XC : List Value, XC = [.int .i32 ver2, .slice ia2 ins2.length ic2, .slice oa2 outs2.length oc2, .int .u32 (lock2 : Int)] := ⟨_, rfl⟩
            have hXv : MTx.val ⟨ver2, ins2, ia2, ic2, outs2, oa2, oc2, lock2⟩ = .agg XC.toArray := by rw [hXC]; rfl
            have HSZX := Lib.hid (show (Tryd.prog.info? 26).map (·.size) = some XC.length by rw [hXC]; kernel_rfl)
            obtain ⟨W21, e21⟩ : ∃ W21, W21 = w20.alloc (.cells #[.int .i32 ver2, .slice ia2 ins2.length ic2, .slice oa2 outs2.length oc2, .int .u32 (lock2 : Int)] 26) := ⟨_, rfl⟩
            have b21 : Below w20.heap.size w20 W21 := by rw [e21]; exact (Below.refl _ _).alloc (Nat.le_refl _) _
            have k21 : Bx4 W21 w20.heap.size (.int .i32 ver2) (.slice ia2 ins2.length ic2) (.slice oa2 outs2.length oc2) (.int .u32 (lock2 : Int)) := by rw [e21]; exact Bx4.new _ _ _ _ _ _
            have HCH : Hid (∀ wx, Below W21.heap.size W21 wx → Below W19.heap.size W19 wx ∧ wx.rangeAt w20.heap.size 0 XC ∧ TxAt wx wx.heap.size ⟨ver2, ins2, ia2, ic2, outs2, oa2, oc2, lock2⟩) := Lib.hid (fun wx hx => by
              have h1 := b21.trans (hx.mono b21.size)
              exact ⟨b20.trans (h1.mono b20.size), by rw [hXC]; exact rangeAt_below k21.rg hx k21.lt, (hxa.below h1).up h1.size⟩)
            have HPX : Hid (∀ wx, Below W21.heap.size W21 wx → Calls Tryd.prog 13 #[.agg XC.toArray] wx fun e w' => ∃ q : MTx, e = .returned q.val ∧ q.p = p ∧ TxAt w' w'.heap.size q ∧ Below wx.heap.size wx w') := Lib.hid (fun wx hx => by
              rw [← hXv, ← hxp]
              exact plain_any wx _ (HCH.out wx hx).2.2 hx1 hx2)
            have HPT : Hid (∀ wx, Below W21.heap.size W21 wx → Calls Tryd.prog 13 #[.agg TC.toArray] wx fun e w' => ∃ q : MTx, e = .returned q.val ∧ q.p = p ∧ TxAt w' w'.heap.size q ∧ Below wx.heap.size wx w') := Lib.hid (fun wx hx => by
              rw [← htv, HHP.out]
              exact plain_any wx _ (HYW.out wx (HCH.out wx hx).1).2.1 hl1 hl2)
            have HIX : Hid (∀ wx, Below W21.heap.size W21 wx → Calls Tryd.prog 8 #[.agg XC.toArray] wx fun e w' => e = .returned (.agg (bys D).toArray) ∧ Below wx.heap.size wx w') := Lib.hid (fun wx hx => by
              have := id_any wx _ (HCH.out wx hx).2.2 (by rw [hxp]; exact HLF.out) (HYW.out wx (HCH.out wx hx).1).2.2.2
              rwa [hXv, hxp, ← HDD.out] at this)
            have HIT : Hid (∀ wx, Below W21.heap.size W21 wx → Calls Tryd.prog 8 #[.agg TC.toArray] wx fun e w' => e = .returned (.agg (bys D).toArray) ∧ Below wx.heap.size wx w') := Lib.hid (fun wx hx => by
              have h1 := HYW.out wx (HCH.out wx hx).1
              have := id_any wx _ h1.2.1 (by rw [← HHP.out]; exact HLF.out) h1.2.2.2
              rwa [htv, ← HHP.out, ← HDD.out] at this)
            obtain ⟨i5, hi5, _⟩ := info_parts Tryd.info5
            have hEQ : ∀ wx, (Op.equalIn 10000 33 (.agg (bys D).toArray) (.agg (bys D).toArray)).run Tryd.prog wx = .ok true wx := fun wx => by
              have := run_eql_bys wx 33 5 32 .u8 i5 Tryd.underlying33 hi5 cells_u8 Tryd.underlying5 D D HDL.out HDL.out
              simpa using this
            have hgh := gu_hashL
            have HE21 := Lib.hid e21
            clear hxp hxa b20 hl1 hl2 hx1 hx2 hXC hXv htv e21 b21 k21 hi5
            go_upto_region 21 with fail
            rw [← HE21.out]
            refine wp_region_noPanic ?_
            refine wp_region_held_drew (S := (fun wx => Below W21.heap.size W21 wx)) (by kernel_rfl) (Below.drew' (Below.refl _ _)) (fun hHeld => ?_)
            refine wpAnyH_take (i := 0) (v := ?_) (by simp only [List.getElem?_toArray, List.getElem?_cons_succ, List.getElem?_cons_zero]; rfl) (by kernel_rfl) (by kernel_rfl) (by kernel_rfl) (fun _ _ _ h => h) (Or.inl ⟨by rfl, ?_⟩) (by assumption) ?_
            rotate_left
            · (intro w hSw; (try dsimp only at hSw); go_simp; (try with_reducible rfl))
            (try simp only [Act.put, List.setIfInBounds_toArray, List.set_cons_zero, List.set_cons_succ])
            refine wpAnyH_take (i := 1) (v := ?_) (by simp only [List.getElem?_toArray, List.getElem?_cons_succ, List.getElem?_cons_zero]; rfl) (by kernel_rfl) (by kernel_rfl) (by kernel_rfl) (fun _ _ _ h => h) (Or.inl ⟨by rfl, ?_⟩) (by assumption) ?_
            rotate_left
            · (intro w hSw; (try dsimp only at hSw); go_simp; (try with_reducible rfl))
            (try simp only [Act.put, List.setIfInBounds_toArray, List.set_cons_zero, List.set_cons_succ])
            refine wpAnyH_take (i := 2) (v := ?_) (by simp only [List.getElem?_toArray, List.getElem?_cons_succ, List.getElem?_cons_zero]; rfl) (by kernel_rfl) (by kernel_rfl) (by kernel_rfl) (fun _ _ _ h => h) (Or.inl ⟨by rfl, ?_⟩) (by assumption) ?_
            rotate_left
            · (intro w hSw; (try dsimp only at hSw); go_simp; (try with_reducible rfl))
            (try simp only [Act.put, List.setIfInBounds_toArray, List.set_cons_zero, List.set_cons_succ])
            refine wpAnyH_take (i := 3) (v := .agg (XC).toArray) (by simp only [List.getElem?_toArray, List.getElem?_cons_succ, List.getElem?_cons_zero]; rfl) (by kernel_rfl) (by kernel_rfl) (by kernel_rfl) (fun _ _ _ h => h) (yieldsIf_load_mid (by first | kernel_rfl | rfl) 26 (.tmp 11) rfl w20.heap.size (0) rfl (XC) _ (fun wx hx => (HCH.out wx hx).2.1) Tryd.underlying26 rfl (HSZX.out)) (by assumption) ?_
            (try simp only [Act.put, List.setIfInBounds_toArray, List.set_cons_zero, List.set_cons_succ])
            refine wpAnyH_take (i := 5) (v := .agg (TC).toArray) (by simp only [List.getElem?_toArray, List.getElem?_cons_succ, List.getElem?_cons_zero]; rfl) (by kernel_rfl) (by kernel_rfl) (by kernel_rfl) (fun _ _ _ h => h) (yieldsIf_load_mid (by first | kernel_rfl | rfl) 26 (.tmp 10) rfl wr.heap.size (0) rfl (TC) _ (fun wx hx => (HYW.out wx (HCH.out wx hx).1).2.2.1) Tryd.underlying26 rfl (HSZT.out)) (by assumption) ?_
            (try simp only [Act.put, List.setIfInBounds_toArray, List.set_cons_zero, List.set_cons_succ])
            refine wpAnyH_ready (rs := [4]) (by kernel_rfl) (by simp) ?_
            refine AllReadyH.cons (by simp only [List.getElem?_toArray, List.getElem?_cons_succ, List.getElem?_cons_zero]; rfl) (fun K hK => ?_) AllReadyH.nil
            go_simp
            refine (HPX.out _ hHeld).mono ?_
            rintro ee wa ⟨r1, rfl, hp1, ht1, ba⟩
            refine hK.out _ _ ?_ (fun hHeld => ?_)
            · exact hHeld.trans (ba.mono hHeld.size)
            clear hK K
            (try simp only [Act.put, List.setIfInBounds_toArray, List.set_cons_zero, List.set_cons_succ])
            refine wpAnyH_ready (rs := [6]) (by kernel_rfl) (by simp) ?_
            refine AllReadyH.cons (by simp only [List.getElem?_toArray, List.getElem?_cons_succ, List.getElem?_cons_zero]; rfl) (fun K hK => ?_) AllReadyH.nil
            go_simp
            refine (HPT.out _ hHeld).mono ?_
            rintro ee wb ⟨r2, rfl, hp2, ht2, bb⟩
            refine hK.out _ _ ?_ (fun hHeld => ?_)
            · exact hHeld.trans (bb.mono hHeld.size)
            clear hK K
            (try simp only [Act.put, List.setIfInBounds_toArray, List.set_cons_zero, List.set_cons_succ])
            refine wpAnyH_ready (rs := [7]) (by kernel_rfl) (by simp) ?_
            refine AllReadyH.cons (by simp only [List.getElem?_toArray, List.getElem?_cons_succ, List.getElem?_cons_zero]; rfl) (fun K hK => ?_) AllReadyH.nil
            go_simp
            refine (same_any _ r1 r2 ((ht1.below bb).up bb.size) ht2 (by rw [hp1, hp2])).mono ?_
            rintro ee wc ⟨rfl, bc⟩
            refine hK.out _ _ ?_ (fun hHeld => ?_)
            · exact hHeld.trans (bc.mono hHeld.size)
            clear hK K
            (try simp only [Act.put, List.setIfInBounds_toArray, List.set_cons_zero, List.set_cons_succ])
            refine wpAnyH_take (i := 8) (v := ?_) (by simp only [List.getElem?_toArray, List.getElem?_cons_succ, List.getElem?_cons_zero]; rfl) (by kernel_rfl) (by kernel_rfl) (by kernel_rfl) (fun _ _ _ h => h) (Or.inl ⟨by rfl, ?_⟩) (by assumption) ?_
            rotate_left
            · (intro w hSw; (try dsimp only at hSw); go_simp; (try with_reducible rfl))
            (try simp only [Act.put, List.setIfInBounds_toArray, List.set_cons_zero, List.set_cons_succ])
            refine wpAnyH_take (i := 9) (v := ?_) (by simp only [List.getElem?_toArray, List.getElem?_cons_succ, List.getElem?_cons_zero]; rfl) (by kernel_rfl) (by kernel_rfl) (by kernel_rfl) (fun _ _ _ h => h) (Or.inl ⟨by rfl, ?_⟩) (by assumption) ?_
            rotate_left
            · (intro w hSw; (try dsimp only at hSw); go_simp; (try with_reducible rfl))
            (try simp only [Act.put, List.setIfInBounds_toArray, List.set_cons_zero, List.set_cons_succ])
            refine wpAnyH_take (i := 10) (v := ?_) (by simp only [List.getElem?_toArray, List.getElem?_cons_succ, List.getElem?_cons_zero]; rfl) (by kernel_rfl) (by kernel_rfl) (by kernel_rfl) (fun _ _ _ h => h) (Or.inl ⟨by rfl, ?_⟩) (by assumption) ?_
            rotate_left
            · (intro w hSw; (try dsimp only at hSw); go_simp; (try with_reducible rfl))
            (try simp only [Act.put, List.setIfInBounds_toArray, List.set_cons_zero, List.set_cons_succ])
            refine wpAnyH_take (i := 11) (v := .agg (XC).toArray) (by simp only [List.getElem?_toArray, List.getElem?_cons_succ, List.getElem?_cons_zero]; rfl) (by kernel_rfl) (by kernel_rfl) (by kernel_rfl) (fun _ _ _ h => h) (yieldsIf_load_mid (by first | kernel_rfl | rfl) 26 (.tmp 11) rfl w20.heap.size (0) rfl (XC) _ (fun wx hx => (HCH.out wx hx).2.1) Tryd.underlying26 rfl (HSZX.out)) (by assumption) ?_
            (try simp only [Act.put, List.setIfInBounds_toArray, List.set_cons_zero, List.set_cons_succ])
            refine wpAnyH_take (i := 13) (v := .agg (TC).toArray) (by simp only [List.getElem?_toArray, List.getElem?_cons_succ, List.getElem?_cons_zero]; rfl) (by kernel_rfl) (by kernel_rfl) (by kernel_rfl) (fun _ _ _ h => h) (yieldsIf_load_mid (by first | kernel_rfl | rfl) 26 (.tmp 10) rfl wr.heap.size (0) rfl (TC) _ (fun wx hx => (HYW.out wx (HCH.out wx hx).1).2.2.1) Tryd.underlying26 rfl (HSZT.out)) (by assumption) ?_
            (try simp only [Act.put, List.setIfInBounds_toArray, List.set_cons_zero, List.set_cons_succ])
            refine wpAnyH_ready (rs := [12]) (by kernel_rfl) (by simp) ?_
            refine AllReadyH.cons (by simp only [List.getElem?_toArray, List.getElem?_cons_succ, List.getElem?_cons_zero]; rfl) (fun K hK => ?_) AllReadyH.nil
            go_simp
            refine (HIX.out _ hHeld).mono ?_
            rintro ee wd ⟨rfl, bd⟩
            refine hK.out _ _ ?_ (fun hHeld => ?_)
            · exact hHeld.trans (bd.mono hHeld.size)
            clear hK K
            (try simp only [Act.put, List.setIfInBounds_toArray, List.set_cons_zero, List.set_cons_succ])
            refine wpAnyH_ready (rs := [14]) (by kernel_rfl) (by simp) ?_
            refine AllReadyH.cons (by simp only [List.getElem?_toArray, List.getElem?_cons_succ, List.getElem?_cons_zero]; rfl) (fun K hK => ?_) AllReadyH.nil
            go_simp
            refine (HIT.out _ hHeld).mono ?_
            rintro ee we ⟨rfl, be⟩
            refine hK.out _ _ ?_ (fun hHeld => ?_)
            · exact hHeld.trans (be.mono hHeld.size)
            clear hK K
            (try simp only [Act.put, List.setIfInBounds_toArray, List.set_cons_zero, List.set_cons_succ])
            refine wpAnyH_take (i := 15) (v := ?_) (by simp only [List.getElem?_toArray, List.getElem?_cons_succ, List.getElem?_cons_zero]; rfl) (by kernel_rfl) (by kernel_rfl) (by kernel_rfl) (fun _ _ _ h => h) (Or.inl ⟨by rfl, ?_⟩) (by assumption) ?_
            rotate_left
            · (intro w hSw; (try dsimp only at hSw); go_simp; (try with_reducible rfl))
            (try simp only [Act.put, List.setIfInBounds_toArray, List.set_cons_zero, List.set_cons_succ])
            refine wpAnyH_take (i := 16) (v := ?_) (by simp only [List.getElem?_toArray, List.getElem?_cons_succ, List.getElem?_cons_zero]; rfl) (by kernel_rfl) (by kernel_rfl) (by kernel_rfl) (fun _ _ _ h => h) (Or.inl ⟨by rfl, ?_⟩) (by assumption) ?_
            rotate_left
            · (intro w hSw; (try dsimp only at hSw); go_simp; (try with_reducible rfl))
            (try simp only [Act.put, List.setIfInBounds_toArray, List.set_cons_zero, List.set_cons_succ])
            refine wpAnyH_done (by kernel_rfl) ?_ _
            refine NoPanic.normal ?_
            have HYN := Lib.hid (HYW.out _ (HCH.out _ hHeld).1).1
            clear hEQ hgh ht1 ht2 hp1 hp2 ba bb bc bd be hHeld
            go_wp2
            go_roundg (n - (j + 1))
            case measure => omega
            case rel => exact ⟨j + 1, nb - m, cb2 - m, A', by omega, by go_num, Nat.le_refl _, by first | rfl | go_num, HYN, HSN⟩
          · have hnb : nb = 0 := by
              have := HST.out.1.1
              rw [List.drop_of_length_le (by have := HNN.out; omega)] at this
              simpa [bys] using this.symm
            subst hnb
            have HFI := Lib.hid (HKW.out _ (HLI.out _ HY.out).2).1
            go_wp2
            go_ret
            exact ⟨rfl, HFI.out⟩
end Go.Proofs.YtdppnicbpdjanaaDoor
