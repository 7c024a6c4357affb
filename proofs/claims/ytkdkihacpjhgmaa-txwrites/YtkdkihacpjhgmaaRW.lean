/- The walk of the law on transactions' bytes. -/
import Derived.Test.YtkdkihacpjhgmaaRE
import Derived.Test.YtkdkihacpjhgmaaZ3
import Derived.Test.YtkdkihacpjhgmaaZ4
namespace Go.Proofs.Ytkdkihacpjhgmaa
set_option linter.unusedSimpArgs false
set_option linter.unusedVariables false
open Go.RowKit

/-- The law passes by what is more than it looks at. -/
def BigP (n m : Nat) (e : Ending) : Prop := ∃ b, e = .returned (.bool b) ∧ (b = false → n ≤ 1030 ∧ m ≤ 1030)
set_option maxHeartbeats 2000000 in
set_option maxRecDepth 100000 in
theorem big_lim (w : World) (t : MTx) (h : TxAt w w.heap.size t) :
    Calls Try.prog 9 #[t.val] w fun e w' => BigP t.ins.length t.outs.length e ∧ Below w.heap.size w w' := by
  by_cases hl : t.ins.length ≤ 1030 ∧ t.outs.length ≤ 1030
  · refine (big_some w w.heap.size t h (Nat.le_refl _)).mono ?_
    rintro e w' ⟨⟨b, he⟩, hb⟩
    exact ⟨⟨b, he, fun _ => hl⟩, hb⟩
  · obtain ⟨ver, ins, ia, ic, outs, oa, oc, lock⟩ := t
    have hil : (ins.length : Int) ≤ 9223372036854775807 := by have h1 := h.il; have h2 := h.ic; simp only at h1 h2; omega
    have hol : (outs.length : Int) ≤ 9223372036854775807 := by have h1 := h.ol; have h2 := h.oc; simp only at h1 h2; omega
    simp only at hl
    show Calls Try.prog 9 #[.agg #[.int .i32 ver, .slice ia ins.length ic, .slice oa outs.length oc, .int .u32 (lock : Int)]] w fun e w' => BigP ins.length outs.length e ∧ Below w.heap.size w w'
    generalize ins.length = n at *
    generalize outs.length = m at *
    obtain ⟨W3, e3⟩ : ∃ W3, W3 = w.alloc (.cells #[.int .i32 ver, .slice ia n ic, .slice oa m oc, .int .u32 (lock : Int)] 26) := ⟨_, rfl⟩
    have hB3 : Below w.heap.size w W3 := by rw [e3]; exact (Below.refl _ _).alloc (Nat.le_refl _) _
    have k0 : Bx4 W3 w.heap.size (.int .i32 ver) (.slice ia n ic) (.slice oa m oc) (.int .u32 (lock : Int)) := by rw [e3]; exact Bx4.new _ _ _ _ _ _
    have c1 := k0.c1
    have c2 := k0.c2
    have HB3 := Lib.hid hB3
    have HE3 := Lib.hid e3
    clear hB3 k0 e3 h
    by_cases h1 : 1030 < n
    · have h1' : (1030 : Int) < (n : Int) := by omega
      clear h1 hl
      go_enter Try.func9, Try.ntmps9
      go_upto_region 1 with fail
      rw [← HE3.out]
      go_wp2
      go_ret
      exact ⟨⟨true, rfl, fun h => absurd h (by decide)⟩, HB3.out⟩
    · have h1' : ¬ (1030 : Int) < (n : Int) := by omega
      have h1d : decide ((1030 : Int) < (n : Int)) = false := by simp; omega
      have h2' : (1030 : Int) < (m : Int) := by omega
      clear h1 hl
      go_enter Try.func9, Try.ntmps9
      go_upto_region 1 with fail
      rw [← HE3.out]
      go_wp2
      go_ret
      exact ⟨⟨true, rfl, fun h => absurd h (by decide)⟩, HB3.out⟩
theorem lit0 (w : World) : OutB w (w.alloc (.cells #[] 5)) (.slice (some ⟨w.heap.size, 0, none⟩) 0 0) [] :=
  ⟨(Below.refl _ _).alloc (Nat.le_refl _) _, by
    have := World.ownsRow_lit (base := w.heap.size) (e := 5) (size := 1) w #[] 0 (by simp) (by unfold maxLen; omega) rfl
    exact Buf.of_own (by simpa [bys] using this)⟩

set_option maxHeartbeats 8000000 in
set_option maxRecDepth 100000 in
theorem writes_walk (t : MTx) (A : Option Addr) (k cap : Nat) (bs : List Nat) (w : World) (h : TxAt w w.heap.size t) (hr : Rd w w.heap.size A k (bys bs)) (hb : B8 bs) (hkc : k ≤ cap) (hcm : cap ≤ maxLen) :
    Calls Try.prog 3 #[t.val, .slice A k cap] w fun e w' => e = .returned (.bool true) ∧ Below w.heap.size w w' := by
  obtain ⟨P, hP⟩ : ∃ P, P = t.p := ⟨_, rfl⟩
  have HPK := Lib.hid h.pok
  rw [← hP] at HPK
  obtain ⟨TC, hTC⟩ : ∃ TC : List Value, TC = [.int .i32 t.ver, .slice t.ia t.ins.length t.ic, .slice t.oa t.outs.length t.oc, .int .u32 (t.lock : Int)] := ⟨_, rfl⟩
  have hval : t.val = .agg TC.toArray := by rw [hTC]; rfl
  have HSZ := Lib.hid (show (Try.prog.info? 26).map (·.size) = some TC.length by rw [hTC]; kernel_rfl)
  obtain ⟨W3, e3⟩ : ∃ W3, W3 = w.alloc (.cells TC.toArray 26) := ⟨_, rfl⟩
  have b3 : Below w.heap.size w W3 := by rw [e3]; exact (Below.refl _ _).alloc (Nat.le_refl _) _
  have k3 : Bx4 W3 w.heap.size (.int .i32 t.ver) (.slice t.ia t.ins.length t.ic) (.slice t.oa t.outs.length t.oc) (.int .u32 (t.lock : Int)) := by rw [e3, hTC]; exact Bx4.new _ _ _ _ _ _
  have HK : Hid (∀ wx, Below W3.heap.size W3 wx → TxAt wx wx.heap.size t ∧ Below w.heap.size w wx ∧ wx.rangeAt w.heap.size 0 TC) :=
    Lib.hid (fun wx hx => by
      have hb := b3.trans (hx.mono b3.size)
      have k := k3.keep (hx.block _ k3.lt)
      exact ⟨(h.below hb).up hb.size, hb, by rw [hTC]; exact k.rgR⟩)
  have HBG : Hid (∀ wx, Below W3.heap.size W3 wx → Calls Try.prog 9 #[.agg TC.toArray] wx fun e w' => BigP t.ins.length t.outs.length e ∧ Below wx.heap.size wx w') := Lib.hid (fun wx hx => by rw [← hval]; exact big_lim wx t (HK.out wx hx).1)
  have HEN : Hid (∀ wx, Below W3.heap.size W3 wx → Calls Try.prog 10 #[.agg TC.toArray] wx fun e w' => ∃ v', e = .returned (.tuple #[v', .int .i64 (encE P : Int)]) ∧ (encE P = 0 → Buf w' wx.heap.size v' (layB P (hasW P)).length (bys (layB P (hasW P)))) ∧ (encE P ≠ 0 → v' = .slice none 0 0) ∧ Below wx.heap.size wx w') := Lib.hid (fun wx hx => by rw [← hval, hP]; exact encode_any wx wx.heap.size t (HK.out wx hx).1 (Nat.le_refl _))
  have HPL : Hid (t.ins.length ≤ 1030 ∧ t.outs.length ≤ 1030 → ∀ wx, Below W3.heap.size W3 wx → Calls Try.prog 12 #[.agg TC.toArray] wx fun e w' => ∃ r : MTx, e = .returned r.val ∧ r.p = P ∧ TxAt w' w'.heap.size r ∧ Below wx.heap.size wx w') := Lib.hid (fun hl wx hx => by rw [← hval, hP]; exact plain_any wx t (HK.out wx hx).1 (by omega) (by omega))
  have HCK : Hid (∀ wx, Below W3.heap.size W3 wx → Calls Try.prog 13 #[.agg TC.toArray] wx fun e w' => e = .returned (.int .i64 (chk P : Int)) ∧ Below wx.heap.size wx w') := Lib.hid (fun wx hx => by rw [← hval, hP]; exact check_any wx wx.heap.size t (HK.out wx hx).1 (Nat.le_refl _))
  have HRM := Lib.hid hr
  have HRB := Lib.hid hb
  have HKC := Lib.hid hkc
  have hki : (k : Int) ≤ 9223372036854775807 := by unfold maxLen at hcm; omega
  have HE3 := Lib.hid e3
  have HB3 := Lib.hid b3
  have HPP := Lib.hid hP
  rw [hval]
  clear hP hTC hval e3 b3 k3 h hr hb hkc hcm
  go_enter Try.func3, Try.ntmps3
  go_upto_region 1 with fail
  rw [← HE3.out]
  go_wp2_with fail
  refine (head_any _).mono ?_
  rintro ee w1 ⟨rfl, b1⟩
  have HB1 : Hid (Below W3.heap.size W3 w1) := Lib.hid b1
  have HRG1 := Lib.hid (HK.out _ HB1.out).2.2
  clear b1
  go_wp2_with (show wpList _ _ _ (Oper.mk (some 15) _ _ _ _ _ :: _) _ _; refine wpList_load_mid rfl 26 (.tmp 2) rfl w.heap.size 0 rfl TC _ HRG1.out Try.underlying26 rfl HSZ.out ?_)
  refine (HBG.out _ HB1.out).mono ?_
  rintro ee w2 ⟨⟨bb, rfl, hlim⟩, b2⟩
  have HB2 := Lib.hid (HB1.out.trans (b2.mono HB1.out.size))
  have HRG2 := Lib.hid (HK.out _ HB2.out).2.2
  have HLIM := Lib.hid hlim
  clear b2 hlim
  cases bb with
  | true =>
    go_wp2
    go_ret
    exact ⟨rfl, (HK.out _ HB2.out).2.1⟩
  | false =>
    have HLM2 := Lib.hid (HLIM.out rfl)
    have HPL2 := Lib.hid (HPL.out HLM2.out)
    by_cases h100 : (100 : Int) < (k : Int)
    · go_wp2
      go_ret
      exact ⟨rfl, (HK.out _ HB2.out).2.1⟩
    · have H100 : Hid (k ≤ 100) := Lib.hid (by omega)
      go_wp2_with (show wpList _ _ _ (Oper.mk (some 23) _ _ _ _ _ :: _) _ _; refine wpList_load_mid rfl 26 (.tmp 2) rfl w.heap.size 0 rfl TC _ HRG2.out Try.underlying26 rfl HSZ.out ?_)
      refine (HEN.out _ HB2.out).mono ?_
      rintro ee w3 ⟨v5, rfl, hz0, hz1, b3⟩
      have HB3' := Lib.hid (HB2.out.trans (b3.mono HB2.out.size))
      have HRG3 := Lib.hid (HK.out _ HB3'.out).2.2
      have HZ0 := Lib.hid hz0
      have HZ1 := Lib.hid hz1
      clear b3 hz0 hz1
      go_wp2_with (show wpList _ _ _ (Oper.mk (some 28) _ _ _ _ _ :: _) _ _; refine wpList_load_mid rfl 26 (.tmp 2) rfl w.heap.size 0 rfl TC _ HRG3.out Try.underlying26 rfl HSZ.out ?_)
      refine (HPL2.out _ HB3'.out).mono ?_
      rintro ee w4 ⟨r, rfl, hrp, hra, b4⟩
      have HB4 := Lib.hid (HB3'.out.trans (b4.mono HB3'.out.size))
      have HRE := Lib.hid (refenc_any w4 r hra)
      rw [hrp] at HRE
      have HB34 := Lib.hid b4
      clear hrp hra b4
      generalize r.val = RV at *
      go_wp2_with fail
      refine HRE.out.mono ?_
      rintro ee w5 ⟨v7, rfl, hy0, hy1, b5⟩
      have HB5 := Lib.hid (HB4.out.trans (b5.mono HB4.out.size))
      have HRG5 := Lib.hid (HK.out _ HB5.out).2.2
      have hqq : ((encE P : Int) != (encE P : Int)) = false := by simp
      by_cases h0 : encE P = 0
      · have bf5 := HZ0.out h0
        have bf7 := hy0 h0
        obtain ⟨hch, hle⟩ := enc_ok h0
        rw [h0] at hqq ⊢
        obtain ⟨A5, c5, hv5, hcl5, hrd5⟩ := bf5.slice
        obtain ⟨A7, c7, hv7, hcl7, hrd7⟩ := bf7.slice
        subst hv5
        subst hv7
        have hr5 : Rd w5 w5.heap.size A5 (layB P (hasW P)).length (bys (layB P (hasW P))) := (hrd5.below (HB34.out.trans (b5.mono HB34.out.size))).up (Nat.le_trans HB34.out.size b5.size)
        have kc5 := run_conv (P := Try.prog) c5 hr5 27 9 5 Try.underlying27 Try.underlying5 Try.underlying9
        have kc7 := run_conv (P := Try.prog) c7 hrd7 27 9 5 Try.underlying27 Try.underlying5 Try.underlying9
        have HLB8 := Lib.hid (layB_b8 HPK.out (hasW P))
        have HDE := Lib.hid (fun r => dec_enc P (small_of hch HPK.out) hle r)
        have HR7 := Lib.hid hrd7
        have HCH := Lib.hid hch
        obtain ⟨LB, hLB⟩ : ∃ LB, LB = layB P (hasW P) := ⟨_, rfl⟩
        rw [← hLB] at kc5 kc7 HLB8 HDE HR7 hle hrd7 ⊢
        obtain ⟨N, hNN⟩ : ∃ N, N = LB.length := ⟨_, rfl⟩
        rw [← hNN] at kc5 kc7 HDE HR7 hle ⊢
        have hs : ((strB LB).toList != (strB LB).toList) = false := by simp
        have HNN := Lib.hid hNN
        have HLE : Hid (N ≤ 65536) := Lib.hid hle
        have HCKX := HCK
        rw [HCH.out] at HCKX
        clear bf5 bf7 hcl5 hcl7 hrd5 hrd7 hr5 hch hle hLB hNN hy0 hy1 b5 h0 HZ0 HZ1
        generalize strB LB = SB at *
        go_wp2_with (show wpList _ _ _ (Oper.mk (some 47) _ _ _ _ _ :: _) _ _; refine wpList_load_mid_g (by kernel_rfl) 26 (.tmp 2) rfl w.heap.size 0 rfl TC _ HRG5.out Try.underlying26 rfl HSZ.out ?_)
        refine (HCKX.out _ HB5.out).mono ?_
        rintro ee w6 ⟨rfl, b6⟩
        have HB6 := Lib.hid (HB5.out.trans (b6.mono HB5.out.size))
        have hR76 := (HR7.out.below b6).up b6.size
        have o0 := lit0 w6
        obtain ⟨v10, w10, hrun1, o1, _, _⟩ := o0.app c7 (hR76.below o0.b) (by have := HLE.out; simp; omega)
        obtain ⟨v11, w11, hrun2, o2, _, _⟩ := o1.app cap (HRM.out.below ((HK.out _ (HB6.out.trans (o1.b.mono HB6.out.size))).2.1)) (by have := HLE.out; have := H100.out; have := HNN.out; simp; omega)
        have HRUN1 := Lib.hid hrun1
        have HRUN2 := Lib.hid hrun2
        rw [List.nil_append] at o2
        have HB11 := Lib.hid (HB6.out.trans (o2.b.mono HB6.out.size))
        obtain ⟨A11, c11, hv11, hcl11, hrd11⟩ := o2.buf.slice
        subst hv11
        have hcm11 := o2.buf.cap_le
        unfold maxLen at hcm11
        have hdx := HDE.out bs
        have hal : ((LB ++ bs).length : Int) ≤ 1000000 := by
          have h1 := HLE.out
          have h2 := H100.out
          have h3 := HNN.out
          have h4 := HRM.out.1
          rw [bys_len] at h4
          rw [List.length_append]
          omega
        have HDC := Lib.hid (decode_any w11 A11 (LB ++ bs).length c11 (LB ++ bs) hrd11 (fun x hx => by rcases List.mem_append.1 hx with hx | hx; exact HLB8.out x hx; exact HRB.out x hx) hal hcl11 (by omega))
        have HDX := Lib.hid hdx
        generalize (LB ++ bs).length = NA at *
        clear kc5 kc7 hs hR76 o0 hrun1 o1 hrun2 o2 hcl11 hrd11 hcm11 hdx b6
        go_upto_region 12 with (first
          | (show wpList _ _ _ (Oper.mk (some 56) _ _ _ _ _ :: _) _ _; refine arm_append 27 (.tmp 54) (.tmp 55) (v' := ?_) (w' := ?_) ?hr1 ?_; case hr1 => exact HRUN1.out)
          | (show wpList _ _ _ (Oper.mk (some 58) _ _ _ _ _ :: _) _ _; refine arm_append 27 (.tmp 56) (.tmp 57) (v' := ?_) (w' := ?_) ?hr2 ?_; case hr2 => exact HRUN2.out))
        go_wp2_with fail
        refine HDC.out.mono ?_
        rintro ee w12 ⟨x, rfl, hxp, hxa, b12⟩
        rw [HDX.out] at hxp ⊢
        simp only at hxp ⊢
        have hl1 : x.ins.length ≤ 100000 := by
          have := congrArg (fun q : PTx => q.ins.length) (hxp.trans HPP.out)
          simp [MTx.p] at this
          have := HLM2.out.1
          omega
        have hl2 : x.outs.length ≤ 100000 := by
          have := congrArg (fun q : PTx => q.outs.length) (hxp.trans HPP.out)
          simp [MTx.p] at this
          have := HLM2.out.2
          omega
        obtain ⟨ver2, ins2, ia2, ic2, outs2, oa2, oc2, lock2⟩ := x
        rw [show MTx.val ⟨ver2, ins2, ia2, ic2, outs2, oa2, oc2, lock2⟩ = .agg #[.int .i32 ver2, .slice ia2 ins2.length ic2, .slice oa2 outs2.length oc2, .int .u32 (lock2 : Int)] from rfl]
        obtain ⟨XC, hXC⟩ : ∃ XC : List Value, XC = [.int .i32 ver2, .slice ia2 ins2.length ic2, .slice oa2 outs2.length oc2, .int .u32 (lock2 : Int)] := ⟨_, rfl⟩
        have hXv : MTx.val ⟨ver2, ins2, ia2, ic2, outs2, oa2, oc2, lock2⟩ = .agg XC.toArray := by rw [hXC]; rfl
        have HSX := Lib.hid (show (Try.prog.info? 26).map (·.size) = some XC.length by rw [hXC]; kernel_rfl)
        obtain ⟨W7, e7⟩ : ∃ W7, W7 = w12.alloc (.cells #[.int .i32 ver2, .slice ia2 ins2.length ic2, .slice oa2 outs2.length oc2, .int .u32 (lock2 : Int)] 26) := ⟨_, rfl⟩
        have b7 : Below w12.heap.size w12 W7 := by rw [e7]; exact (Below.refl _ _).alloc (Nat.le_refl _) _
        have x7 : Bx4 W7 w12.heap.size (.int .i32 ver2) (.slice ia2 ins2.length ic2) (.slice oa2 outs2.length oc2) (.int .u32 (lock2 : Int)) := by rw [e7]; exact Bx4.new _ _ _ _ _ _
        have HCHN : Hid (∀ wx, Below W7.heap.size W7 wx → Below W3.heap.size W3 wx) := Lib.hid (fun wx hx => HB11.out.trans ((b12.trans ((b7.trans (hx.mono b7.size)).mono b12.size)).mono HB11.out.size))
        have HRX : Hid (∀ wx, Below W7.heap.size W7 wx → wx.rangeAt w12.heap.size 0 XC) := Lib.hid (fun wx hx => by rw [hXC]; exact rangeAt_below x7.rgR hx x7.lt)
        have HPX : Hid (∀ wx, Below W7.heap.size W7 wx → Calls Try.prog 12 #[.agg XC.toArray] wx fun e w' => ∃ r : MTx, e = .returned r.val ∧ r.p = P ∧ TxAt w' w'.heap.size r ∧ Below wx.heap.size wx w') := Lib.hid (fun wx hx => by
          rw [← hXv, ← hxp]
          have hx6 := b7.trans (hx.mono b7.size)
          exact plain_any wx _ ((hxa.below hx6).up hx6.size) hl1 hl2)
        have HE7 := Lib.hid e7
        clear hxp hxa b12 hl1 hl2 hXC hXv e7 b7 x7
        go_upto_region 13 with fail
        rw [← HE7.out]
        refine wp_region_noPanic ?_
        refine wp_region_held_drew (S := (fun wx => Below W7.heap.size W7 wx)) (by kernel_rfl) (Below.drew' (Below.refl _ _)) (fun hHeld => ?_)
        refine wpAnyH_take (i := 0) (v := ?_) (by simp only [List.getElem?_toArray, List.getElem?_cons_succ, List.getElem?_cons_zero]; rfl) (by kernel_rfl) (by kernel_rfl) (by kernel_rfl) (fun _ _ _ h => h) (Or.inl ⟨by rfl, ?_⟩) (by assumption) ?_
        rotate_left
        · (intro w hSw; (try dsimp only at hSw); go_simp; (try with_reducible rfl))
        (try simp only [Act.put, List.setIfInBounds_toArray, List.set_cons_zero, List.set_cons_succ])
        refine wpAnyH_take (i := 1) (v := ?_) (by simp only [List.getElem?_toArray, List.getElem?_cons_succ, List.getElem?_cons_zero]; rfl) (by kernel_rfl) (by kernel_rfl) (by kernel_rfl) (fun _ _ _ h => h) (Or.inl ⟨by rfl, ?_⟩) (by assumption) ?_
        rotate_left
        · (intro w hSw; (try dsimp only at hSw); go_simp; (try with_reducible rfl))
        (try simp only [Act.put, List.setIfInBounds_toArray, List.set_cons_zero, List.set_cons_succ])
        refine wpAnyH_take (i := 2) (v := ?_) (by simp only [List.getElem?_toArray, List.getElem?_cons_succ, List.getElem?_cons_zero]; rfl) (by kernel_rfl) (by kernel_rfl) (by kernel_rfl) (fun _ _ _ h => h) (Or.inl ⟨by rfl, ?_⟩) (by assumption) ?_
        rotate_left
        · (intro w hSw; (try dsimp only at hSw); go_simp; (try with_reducible rfl))
        (try simp only [Act.put, List.setIfInBounds_toArray, List.set_cons_zero, List.set_cons_succ])
        refine wpAnyH_take (i := 3) (v := ?_) (by simp only [List.getElem?_toArray, List.getElem?_cons_succ, List.getElem?_cons_zero]; rfl) (by kernel_rfl) (by kernel_rfl) (by kernel_rfl) (fun _ _ _ h => h) (Or.inl ⟨by rfl, ?_⟩) (by assumption) ?_
        rotate_left
        · (intro w hSw; (try dsimp only at hSw); go_simp; (try with_reducible rfl))
        (try simp only [Act.put, List.setIfInBounds_toArray, List.set_cons_zero, List.set_cons_succ])
        refine wpAnyH_take (i := 4) (v := ?_) (by simp only [List.getElem?_toArray, List.getElem?_cons_succ, List.getElem?_cons_zero]; rfl) (by kernel_rfl) (by kernel_rfl) (by kernel_rfl) (fun _ _ _ h => h) (Or.inl ⟨by rfl, ?_⟩) (by assumption) ?_
        rotate_left
        · (intro w hSw; (try dsimp only at hSw); go_simp; (try with_reducible rfl))
        (try simp only [Act.put, List.setIfInBounds_toArray, List.set_cons_zero, List.set_cons_succ])
        refine wpAnyH_take (i := 5) (v := ?_) (by simp only [List.getElem?_toArray, List.getElem?_cons_succ, List.getElem?_cons_zero]; rfl) (by kernel_rfl) (by kernel_rfl) (by kernel_rfl) (fun _ _ _ h => h) (Or.inl ⟨by rfl, ?_⟩) (by assumption) ?_
        rotate_left
        · (intro w hSw; (try dsimp only at hSw); go_simp; (try with_reducible rfl))
        (try simp only [Act.put, List.setIfInBounds_toArray, List.set_cons_zero, List.set_cons_succ])
        refine wpAnyH_take (i := 6) (v := ?_) (by simp only [List.getElem?_toArray, List.getElem?_cons_succ, List.getElem?_cons_zero]; rfl) (by kernel_rfl) (by kernel_rfl) (by kernel_rfl) (fun _ _ _ h => h) (Or.inl ⟨by rfl, ?_⟩) (by assumption) ?_
        rotate_left
        · (intro w hSw; (try dsimp only at hSw); go_simp; (try with_reducible rfl))
        (try simp only [Act.put, List.setIfInBounds_toArray, List.set_cons_zero, List.set_cons_succ])
        refine wpAnyH_take (i := 7) (v := ?_) (by simp only [List.getElem?_toArray, List.getElem?_cons_succ, List.getElem?_cons_zero]; rfl) (by kernel_rfl) (by kernel_rfl) (by kernel_rfl) (fun _ _ _ h => h) (Or.inl ⟨by rfl, ?_⟩) (by assumption) ?_
        rotate_left
        · (intro w hSw; (try dsimp only at hSw); go_simp; (try with_reducible rfl))
        (try simp only [Act.put, List.setIfInBounds_toArray, List.set_cons_zero, List.set_cons_succ])
        refine wpAnyH_take (i := 8) (v := ?_) (by simp only [List.getElem?_toArray, List.getElem?_cons_succ, List.getElem?_cons_zero]; rfl) (by kernel_rfl) (by kernel_rfl) (by kernel_rfl) (fun _ _ _ h => h) (Or.inl ⟨by rfl, ?_⟩) (by assumption) ?_
        rotate_left
        · (intro w hSw; (try dsimp only at hSw); go_simp; (try with_reducible rfl))
        (try simp only [Act.put, List.setIfInBounds_toArray, List.set_cons_zero, List.set_cons_succ])
        refine wpAnyH_take (i := 9) (v := .agg (XC).toArray) (by simp only [List.getElem?_toArray, List.getElem?_cons_succ, List.getElem?_cons_zero]; rfl) (by kernel_rfl) (by kernel_rfl) (by kernel_rfl) (fun _ _ _ h => h) (yieldsIf_load_mid (by first | kernel_rfl | rfl) 26 (.tmp 10) rfl w12.heap.size (0) rfl (XC) _ (fun wx hx => HRX.out wx hx) Try.underlying26 rfl (HSX.out)) (by assumption) ?_
        (try simp only [Act.put, List.setIfInBounds_toArray, List.set_cons_zero, List.set_cons_succ])
        refine wpAnyH_take (i := 11) (v := .agg (TC).toArray) (by simp only [List.getElem?_toArray, List.getElem?_cons_succ, List.getElem?_cons_zero]; rfl) (by kernel_rfl) (by kernel_rfl) (by kernel_rfl) (fun _ _ _ h => h) (yieldsIf_load_mid (by first | kernel_rfl | rfl) 26 (.tmp 2) rfl w.heap.size (0) rfl (TC) _ (fun wx hx => (HK.out wx (HCHN.out wx hx)).2.2) Try.underlying26 rfl (HSZ.out)) (by assumption) ?_
        (try simp only [Act.put, List.setIfInBounds_toArray, List.set_cons_zero, List.set_cons_succ])
        refine wpAnyH_ready (rs := [10]) (by kernel_rfl) (by simp) ?_
        refine AllReadyH.cons (by simp only [List.getElem?_toArray, List.getElem?_cons_succ, List.getElem?_cons_zero]; rfl) (fun K hK => ?_) AllReadyH.nil
        go_simp
        refine (HPX.out _ hHeld).mono ?_
        rintro ee wa ⟨r1, rfl, hp1, ht1, ba⟩
        refine hK.out _ _ ?_ (fun hHeld => ?_)
        · exact hHeld.trans (ba.mono hHeld.size)
        clear hK K
        (try simp only [Act.put, List.setIfInBounds_toArray, List.set_cons_zero, List.set_cons_succ])
        refine wpAnyH_ready (rs := [12]) (by kernel_rfl) (by simp) ?_
        refine AllReadyH.cons (by simp only [List.getElem?_toArray, List.getElem?_cons_succ, List.getElem?_cons_zero]; rfl) (fun K hK => ?_) AllReadyH.nil
        go_simp
        refine (HPL2.out _ (HCHN.out _ hHeld)).mono ?_
        rintro ee wb ⟨r2, rfl, hp2, ht2, bb⟩
        refine hK.out _ _ ?_ (fun hHeld => ?_)
        · exact hHeld.trans (bb.mono hHeld.size)
        clear hK K
        (try simp only [Act.put, List.setIfInBounds_toArray, List.set_cons_zero, List.set_cons_succ])
        refine wpAnyH_ready (rs := [13]) (by kernel_rfl) (by simp) ?_
        refine AllReadyH.cons (by simp only [List.getElem?_toArray, List.getElem?_cons_succ, List.getElem?_cons_zero]; rfl) (fun K hK => ?_) AllReadyH.nil
        go_simp
        refine (same_any _ r1 r2 ((ht1.below bb).up bb.size) ht2 (by rw [hp1, hp2])).mono ?_
        rintro ee wc ⟨rfl, bc⟩
        refine hK.out _ _ ?_ (fun hHeld => ?_)
        · exact hHeld.trans (bc.mono hHeld.size)
        clear hK K
        (try simp only [Act.put, List.setIfInBounds_toArray, List.set_cons_zero, List.set_cons_succ])
        refine wpAnyH_take (i := 14) (v := ?_) (by simp only [List.getElem?_toArray, List.getElem?_cons_succ, List.getElem?_cons_zero]; rfl) (by kernel_rfl) (by kernel_rfl) (by kernel_rfl) (fun _ _ _ h => h) (Or.inl ⟨by rfl, ?_⟩) (by assumption) ?_
        rotate_left
        · (intro w hSw; (try dsimp only at hSw); go_simp; (try with_reducible rfl))
        (try simp only [Act.put, List.setIfInBounds_toArray, List.set_cons_zero, List.set_cons_succ])
        refine wpAnyH_take (i := 15) (v := ?_) (by simp only [List.getElem?_toArray, List.getElem?_cons_succ, List.getElem?_cons_zero]; rfl) (by kernel_rfl) (by kernel_rfl) (by kernel_rfl) (fun _ _ _ h => h) (Or.inl ⟨by rfl, ?_⟩) (by assumption) ?_
        rotate_left
        · (intro w hSw; (try dsimp only at hSw); go_simp; (try with_reducible rfl))
        (try simp only [Act.put, List.setIfInBounds_toArray, List.set_cons_zero, List.set_cons_succ])
        refine wpAnyH_done (by kernel_rfl) ?_ _
        refine NoPanic.normal ?_
        go_wp2_with fail
        go_ret
        exact ⟨rfl, (HK.out _ (HCHN.out _ hHeld)).2.1⟩
      · have hv5 := HZ1.out h0
        have hv7 := hy1 h0
        subst hv5
        subst hv7
        have kc := run_conv (P := Try.prog) (w := w5) (B := 0) (A := none) (n := 0) (bs := []) 0 Rd.nil 27 9 5 Try.underlying27 Try.underlying5 Try.underlying9
        have hs : ((strB []).toList != (strB []).toList) = false := by simp
        have hq1 : ((encE P : Int) != 0) = true := by simp [bne]; omega
        have hq2 : ((encE P : Int) == 0) = false := by simp; omega
        have hq3 : ¬ (encE P : Int) = 0 := by omega
        clear h0 hy0 hy1 HZ0 HZ1
        generalize strB [] = SB at *
        generalize (encE P : Int) = EP at *
        go_wp2
        go_ret
        exact ⟨rfl, (HK.out _ HB5.out).2.1⟩
end Go.Proofs.Ytkdkihacpjhgmaa
