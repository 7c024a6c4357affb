/- The walk of the law on numbers. -/
import Derived.Test.YtdppnicbpdjanaaDoorXJ
namespace Go.Proofs.YtdppnicbpdjanaaDoor
set_option linter.unusedSimpArgs false
set_option linter.unusedVariables false
open Go.RowKit

theorem gu_hashI : Tryd.prog.eqGuardType Tryd.prog.depth 33 = false := by kernel_rfl

theorem set0_bare (ins : List MIn) (x : MIn) (hx : (ins.map bareM)[0]? = some x) (A : Option Addr) (L : List (List Nat)) (c : Nat) : (((ins.map bareM).set 0 ⟨{ x.p with wit := L }, A, c⟩).map (·.p)).map bare = (ins.map (·.p)).map bare := by
  cases ins with
  | nil => simp at hx
  | cons y r => simp at hx; subst hx; simp [bareM, bare, Function.comp_def]
theorem bareM_at {w : World} {B : Nat} {l : List MIn} (h : ∀ x ∈ l, x.p.ok) : ∀ y ∈ l.map bareM, InAt w B y := fun y hy => by
  obtain ⟨x, hx, rfl⟩ := List.mem_map.1 hy
  exact ⟨Rd.nil, bareM_ok (h x hx), Nat.zero_le _, by simp [bareM]⟩
theorem bareM_lens {l : List MIn} (h : ∀ x ∈ l, x.p.ok) : ∀ y ∈ l.map bareM, y.cells.length = 36 := fun y hy => by
  obtain ⟨x, hx, rfl⟩ := List.mem_map.1 hy
  exact MIn.len (bareM_ok (h x hx))
theorem in_one_all {l : List MIn} : ∀ u ∈ l.flatMap MIn.cells, u.oneCell' = true := fun u hu => by
  obtain ⟨x, _, hx⟩ := List.mem_flatMap.1 hu
  exact inC_one u hx

set_option maxHeartbeats 8000000 in
set_option maxRecDepth 100000 in
theorem ids_walk (t : MTx) (A : Option Addr) (cap : Nat) (L : List (List Nat)) (w : World) (h : TxAt w w.heap.size t) (hL : Rd w w.heap.size A L.length (strs L)) (hLb : ∀ p ∈ L, B8 p ∧ (p.length : Int) ≤ 9223372036854775807) (hLc : L.length ≤ cap) (hLm : (cap : Int) ≤ 9223372036854775807) (ht : TabAt w) :
    Calls Tryd.prog 3 #[t.val, .slice A L.length cap] w fun e w' => e = .returned (.bool true) ∧ Below w.heap.size w w' := by
  obtain ⟨ver, ins, ia, ic, outs, oa, oc, lock⟩ := t
  have HPK := Lib.hid h.pok
  obtain ⟨P, hP⟩ : ∃ P, P = MTx.p ⟨ver, ins, ia, ic, outs, oa, oc, lock⟩ := ⟨_, rfl⟩
  have HP := Lib.hid hP
  rw [← hP] at HPK
  have hil : (ins.length : Int) ≤ 9223372036854775807 := by have h1 := h.il; have h2 := h.ic; simp only at h1 h2; omega
  have HT := Lib.hid h
  have HL := Lib.hid hL
  have HLB := Lib.hid hLb
  have HLC := Lib.hid hLc
  have HLM := Lib.hid hLm
  have HTB := Lib.hid ht
  have hLi : (L.length : Int) ≤ 9223372036854775807 := by omega
  have HOK := Lib.hid (fun x hx => (h.iat x hx).ok)
  have HLOK := Lib.hid hLb
  obtain ⟨n, hn⟩ : ∃ n, n = ins.length := ⟨_, rfl⟩
  have HN := Lib.hid hn
  obtain ⟨TC, hTC⟩ : ∃ TC : List Value, TC = [.int .i32 ver, .slice ia ins.length ic, .slice oa outs.length oc, .int .u32 (lock : Int)] := ⟨_, rfl⟩
  have hval : MTx.val ⟨ver, ins, ia, ic, outs, oa, oc, lock⟩ = .agg TC.toArray := by rw [hTC]; rfl
  have HSZ := Lib.hid (show (Tryd.prog.info? 26).map (·.size) = some TC.length by rw [hTC]; kernel_rfl)
  obtain ⟨W3, e3⟩ : ∃ W3, W3 = w.alloc (.cells TC.toArray 26) := ⟨_, rfl⟩
  have b3 : Below w.heap.size w W3 := by rw [e3]; exact (Below.refl _ _).alloc (Nat.le_refl _) _
  have k3 : Bx4 W3 w.heap.size (.int .i32 ver) (.slice ia ins.length ic) (.slice oa outs.length oc) (.int .u32 (lock : Int)) := by rw [e3, hTC]; exact Bx4.new _ _ _ _ _ _
  have HK : Hid (∀ wx, Below W3.heap.size W3 wx → Bx4 wx w.heap.size (.int .i32 ver) (.slice ia n ic) (.slice oa outs.length oc) (.int .u32 (lock : Int)) ∧ TxAt wx wx.heap.size ⟨ver, ins, ia, ic, outs, oa, oc, lock⟩ ∧ Below w.heap.size w wx ∧ TabAt wx ∧ wx.rangeAt w.heap.size 0 TC) :=
    Lib.hid (fun wx hx => by
      have hb := b3.trans (hx.mono b3.size)
      have k := k3.keep (hx.block _ k3.lt)
      rw [hn]
      exact ⟨k, (h.below hb).up hb.size, hb, ht.below hb ht.1, by rw [hTC]; exact k.rg⟩)
  have HBG : Hid (∀ wx, Below W3.heap.size W3 wx → Calls Tryd.prog 6 #[.agg TC.toArray] wx fun e w' => SomeB e ∧ Below wx.heap.size wx w') := Lib.hid (fun wx hx => by rw [← hval]; exact big_some wx _ _ (HK.out wx hx).2.1 (Nat.le_refl _))
  have HCK : Hid (∀ wx, Below W3.heap.size W3 wx → Calls Tryd.prog 7 #[.agg TC.toArray] wx fun e w' => e = .returned (.int .i64 (chk P : Int)) ∧ Below wx.heap.size wx w') := Lib.hid (fun wx hx => by rw [← hval, hP]; exact check_any wx _ _ (HK.out wx hx).2.1 (Nat.le_refl _))
  have HID : Hid ((layB P false).length ≤ 100000000 → ∀ wx, Below W3.heap.size W3 wx → Calls Tryd.prog 8 #[.agg TC.toArray] wx fun e w' => e = .returned (.agg (bys (idT P)).toArray) ∧ Below wx.heap.size wx w') := Lib.hid (fun hn wx hx => by rw [← hval]; rw [hP] at hn ⊢; exact id_any wx _ (HK.out wx hx).2.1 hn (HK.out wx hx).2.2.2.1)
  have HFW : Hid (chk P = 0 → (layB P false).length ≤ 100000000) := Lib.hid (fun hc => layF_few hc (fun x hx => (HPK.out.ins x hx).id))
  have HB3 := Lib.hid b3
  have HE3 := Lib.hid e3
  rw [hval]
  rw [← hn] at hil
  clear hn h hP hL hLb hLc hLm ht hTC hval e3 b3 k3
  go_enter Tryd.func3, Tryd.ntmps3
  go_upto_region 1 with fail
  rw [← HE3.out]
  go_wp2_with fail
  refine (head_any _).mono ?_
  rintro ee w1 ⟨rfl, b1⟩
  have HB1 : Hid (Below W3.heap.size W3 w1) := Lib.hid b1
  have HRG1 := Lib.hid (HK.out _ HB1.out).2.2.2.2
  clear b1
  go_wp2_with (show wpList _ _ _ (Oper.mk (some 14) _ _ _ _ _ :: _) _ _; refine wpList_load_mid rfl 26 (.tmp 2) rfl w.heap.size 0 rfl TC _ HRG1.out Tryd.underlying26 rfl HSZ.out ?_)
  refine (HBG.out _ HB1.out).mono ?_
  rintro ee w2 ⟨⟨bb, rfl⟩, b2⟩
  have HB2 := Lib.hid (HB1.out.trans (b2.mono HB1.out.size))
  have HRG2 := Lib.hid (HK.out _ HB2.out).2.2.2.2
  clear b2
  cases bb with
  | true =>
    go_wp2
    go_ret
    exact ⟨rfl, (HK.out _ HB2.out).2.2.1⟩
  | false =>
    by_cases h20 : (20 : Int) < (L.length : Int)
    · go_wp2
      go_ret
      exact ⟨rfl, (HK.out _ HB2.out).2.2.1⟩
    · have h20d : decide ((20 : Int) < (L.length : Int)) = false := by simpa using h20
      go_wp2_with (show wpList _ _ _ (Oper.mk (some 22) _ _ _ _ _ :: _) _ _; refine wpList_load_mid_g (by kernel_rfl) 26 (.tmp 2) rfl w.heap.size 0 rfl TC _ HRG2.out Tryd.underlying26 rfl HSZ.out ?_)
      refine (HCK.out _ HB2.out).mono ?_
      rintro ee w3 ⟨rfl, b3⟩
      have HB3' := Lib.hid (HB2.out.trans (b3.mono HB2.out.size))
      clear b3
      by_cases hc : chk P = 0
      · have HID2 := Lib.hid (HID.out (HFW.out hc))
        have HC0 := Lib.hid hc
        have HFW2 := Lib.hid (HFW.out hc)
        rw [hc]
        have HRG3 := Lib.hid (HK.out _ HB3'.out).2.2.2.2
        clear hc
        obtain ⟨D, hD⟩ : ∃ D, D = idT P := ⟨_, rfl⟩
        rw [← hD] at HID2
        have hdl : D.length = 32 := by rw [hD]; exact idT_len _
        have HDD := Lib.hid hD
        clear hD
        go_wp2_with (show wpList _ _ _ (Oper.mk (some 26) _ _ _ _ _ :: _) _ _; refine wpList_load_mid rfl 26 (.tmp 2) rfl w.heap.size 0 rfl TC _ HRG3.out Tryd.underlying26 rfl HSZ.out ?_)
        refine (HID2.out _ HB3'.out).mono ?_
        rintro ee w4 ⟨rfl, b4⟩
        have HB4 := Lib.hid (HB3'.out.trans (b4.mono HB3'.out.size))
        obtain ⟨W5, e5⟩ : ∃ W5, W5 = (w4.alloc (.cells ZH 33)).setCells w4.heap.size 0 (bys D) := ⟨_, rfl⟩
        have hsz : (bys D).length = 32 := by rw [bys_len]; exact hdl
        have kb5 : Blk W5 w4.heap.size 33 (bys D).toArray := by rw [e5]; exact (Blk.new w4 33 ZH).stored (bys D) (by rw [ZH_size]; exact hsz)
        have b5 : Below w4.heap.size w4 W5 := by rw [e5]; exact Below.setCells' ((Below.refl _ _).alloc (Nat.le_refl _) _) _ _ (Nat.le_refl _) _
        have HTN := Lib.hid (there_new w4 ZH 33 (bys D).toArray.size (by rw [ZH_size]; exact hsz.symm))
        have HSZH := Lib.hid (show (Tryd.prog.info? 33).map (·.size) = some (bys D).toArray.size by rw [show (bys D).toArray.size = 32 from hsz]; exact Tryd.size33)
        have HSZI := Lib.hid (show (Tryd.prog.info? 33).map (·.size) = some (bys D).length by rw [hsz]; exact Tryd.size33)
        have HB5 := Lib.hid (HB4.out.trans (b5.mono HB4.out.size))
        have k5 := (HK.out _ HB5.out).1
        obtain ⟨W6, e6⟩ : ∃ W6, W6 = W5.alloc (.cells #[.int .i32 ver, .slice ia n ic, .slice oa outs.length oc, .int .u32 (lock : Int)] 26) := ⟨_, rfl⟩
        have b6 : Below W5.heap.size W5 W6 := by rw [e6]; exact (Below.refl _ _).alloc (Nat.le_refl _) _
        have k6 : Bx4 W6 W5.heap.size (.int .i32 ver) (.slice ia n ic) (.slice oa outs.length oc) (.int .u32 (lock : Int)) := by rw [e6]; exact Bx4.new _ _ _ _ _ _
        obtain ⟨W7, e7⟩ : ∃ W7, W7 = W6.setCell ⟨W5.heap.size, 1, none⟩ (.slice none 0 0) := ⟨_, rfl⟩
        have t7 : Tch W6 W7 [W5.heap.size] := by rw [e7]; exact Tch.of_grown (grown_setCell _ _ _) (by simp)
        have k7 := k6.set1 (.slice none 0 0)
        rw [← e7] at k7
        have H7 : Hid (BaS W6 W7 W5.heap.size ver lock (.slice none 0 0) ((ins.take 0).map bareM) (.slice oa outs.length oc)) := Lib.hid
          ⟨t7.below b6.size (by simp), k7, World.ownsRow_nil _ _ _ _, b6.size⟩
        have HDI : Hid (∀ wx, Below W5.heap.size W6 wx → Below W3.heap.size W3 wx ∧ wx.rangeAt w4.heap.size 0 (bys D)) := Lib.hid (fun wx hx => by
          have h1 := b6.trans hx
          exact ⟨HB5.out.trans (h1.mono HB5.out.size), rangeAt_below (show W5.rangeAt w4.heap.size 0 (bys D) from kb5.range) h1 kb5.lt⟩)
        have c0 := k5.c0
        have c1 := k5.c1
        have c2 := k5.c2
        have c3 := k5.c3
        have d1 := k6.c1
        have f1 := k6.cold 1
        have HE5 := Lib.hid e5
        have HE6 := Lib.hid e6
        have HE7 := Lib.hid e7
        have HIDL := Lib.hid hdl
        clear hdl hsz kb5 b5 k5 e5 e6 e7 b6 k6 t7 k7 b4
        go_upto_region 6 with (first
          | (show wpList _ _ _ (Oper.mk (some 5) _ _ _ _ _ :: _) _ _; refine wpList_of_wp rfl fun K hK => wp_alloc_arr 33 rfl ZH Tryd.zero33 (hK _ _ ?_))
          | (show wpList _ _ _ (Oper.mk none _ _ _ _ _ :: _) _ _; refine wpList_store_mid rfl 33 (.tmp 5) (.tmp 27) rfl w4.heap.size 0 (bys D).toArray rfl rfl HTN.out HSZH.out (all_oneCell_toArray (bys_one _)) ?_))
        rw [← HE5.out]
        go_upto_region 7 with fail
        rw [← HE6.out]
        clear c0 c1 c2 c3
        go_upto_region 8 with fail
        rw [← HE7.out]
        clear d1 f1
        have c1 := (HK.out _ (HDI.out _ H7.out.b).1).1.c1
        go_upto_region 9 with fail
        clear c1
        go_loopg [8, 33] n (fun kx s8 s33 wr => ∃ (i : Nat) (v : Value), i ≤ n ∧ s33 = .int .i64 i ∧ n - i ≤ kx ∧ Hid (BaS W6 wr W5.heap.size ver lock v ((ins.take i).map bareM) (.slice oa outs.length oc)))
        case atStart => exact ⟨0, _, Nat.zero_le _, rfl, Nat.le_refl _, H7⟩
        case round =>
          obtain ⟨i, v, hi, rfl, hk, HQ⟩ := hrel
          have HW := Lib.hid (HK.out _ (HDI.out _ HQ.out.b).1).2.2.1
          by_cases hlt : i < n
          · obtain ⟨x, hx⟩ : ∃ x, ins[i]? = some x := ⟨_, List.getElem?_eq_getElem (by have := HN.out; omega)⟩
            have HTK : Hid ((ins.take (i + 1)).map bareM = (ins.take i).map bareM ++ [bareM x]) := Lib.hid (by rw [take_one hx, List.map_append]; rfl)
            have HTL : Hid (((ins.take i).map bareM).length ≤ 100000) := Lib.hid (by
              have h1 := (chk_ok HC0.out).i1
              rw [HP.out] at h1
              simp only [MTx.p, List.length_map] at h1
              rw [List.length_map, List.length_take]
              omega)
            obtain ⟨ga, offa, hgaa, hga, cxa⟩ := (HT.out.below HW.out).inp i x hx
            simp only at hgaa
            subst hgaa
            have HIAa := Lib.hid ((HT.out.below HW.out).iat x (List.mem_of_getElem? hx))
            have hlena : (x).cells.length = 36 := MIn.len HIAa.out.ok
            have HATa := Lib.hid (show (x).cells[32]? = _ ∧ (x).cells[33]? = _ ∧ (x).cells[34]? = _ ∧ (x).cells[35]? = _ from inC_at (out := (x).p.out) (sc := (x).p.sc) (seq := (x).p.seq) (W := .slice (x).wa (x).p.wit.length (x).wc) HIAa.out.ok.id)
            have HAIa := Lib.hid (show ∀ (j : Nat) (u : Value), (bys (x).p.id)[j]? = some u → (x).cells[j]? = some u from fun j u hu => inC_id j u hu)
            have honea : ∀ u ∈ (x).cells, u.oneCell' = true := inC_one
            obtain ⟨Ca, hCa⟩ : ∃ C, C = (x).cells := ⟨_, rfl⟩
            rw [← hCa] at HATa HAIa honea hlena cxa
            have HCa := Lib.hid hCa
            have HTHa := Lib.hid (cpr_there 38 wr Ca hlena)
            obtain ⟨Wa, ea, kba, ba, sa⟩ := cpr_pack 38 wr Ca hlena
            have KBa := Lib.hid kba
            have HBa := Lib.hid (HW.out.trans (ba.mono HW.out.size))
            have HDa := Lib.hid ba
            have HSa := Lib.hid sa
            have HCXa := Lib.hid cxa
            have HS1a := Lib.hid (show (Tryd.prog.info? 38).map (·.size) = some Ca.length by rw [hlena]; exact Tryd.sizeIn)
            have HS2a := Lib.hid (show (Tryd.prog.info? 38).map (·.size) = some Ca.toArray.size by rw [List.size_toArray, hlena]; exact Tryd.sizeIn)
            have HONEa := Lib.hid (all_oneCell_toArray honea)
            have HEa := Lib.hid ea
            clear honea hlena cxa kba ba sa ea hCa
            go_upto_region 11 with (first
              | (show wpList _ _ _ (Oper.mk (some 36) _ _ _ _ _ :: _) _ _; refine wpList_load_mid rfl 38 (.tmp 35) rfl ga (offa + i * 36) rfl Ca _ HCXa.out Tryd.underlying38 rfl HS1a.out ?_)
              | (show wpList _ _ _ (Oper.mk (some 8) _ _ _ _ _ :: _) _ _; refine wpList_of_wp rfl fun K hK => wp_alloc_arr 38 rfl ZIN.toArray Tryd.zeroIn (hK _ _ ?_))
              | (show wpList _ _ _ (Oper.mk none _ _ _ _ _ :: _) _ _; refine wpList_store_mid rfl 38 (.tmp 8) (.tmp 36) rfl wr.heap.size 0 Ca.toArray rfl rfl HTHa.out HS2a.out HONEa.out ?_))
            rw [← HEa.out]
            have HQa := Lib.hid (HQ.out.more HDa.out)
            have c35 := KBa.out.cell 35 _ HATa.out.2.2.2
            have f35 : Wa.frozen? ⟨wr.heap.size, 35, none⟩ = false := by (unfold World.frozen?; rw [show Wa.heap[wr.heap.size]? = _ from KBa.out]; simp)
            obtain ⟨Wc, ec⟩ : ∃ Wc, Wc = Wa.setCell ⟨wr.heap.size, 35, none⟩ (.slice none 0 0) := ⟨_, rfl⟩
            have tc : Tch Wa Wc [wr.heap.size] := by rw [ec]; exact Tch.of_grown (grown_setCell _ _ _) (by simp)
            have hrc : Wc.rangeAt wr.heap.size 0 (bareM x).cells := by
              rw [← bareM_cells HIAa.out.ok.id, ← HCa.out, ec]
              exact range_set (show Wa.rangeAt wr.heap.size 0 Ca from KBa.out.range) (by rw [HCa.out, MIn.len HIAa.out.ok]; omega) _
            have hQc : BaS W6 Wc W5.heap.size ver lock v ((ins.take i).map bareM) (.slice oa outs.length oc) := by
              rw [ec]
              have hlt8 := HQ.out.box.lt
              exact ⟨HQa.out.b.trans ((show Tch Wa (Wa.setCell ⟨wr.heap.size, 35, none⟩ (.slice none 0 0)) [wr.heap.size] from Tch.of_grown (grown_setCell _ _ _) (by simp)).below (by have := HDa.out.size; omega) (by simp; omega)),
                HQa.out.box.keep ((show Tch Wa (Wa.setCell ⟨wr.heap.size, 35, none⟩ (.slice none 0 0)) [wr.heap.size] from Tch.of_grown (grown_setCell _ _ _) (by simp)).block _ HQa.out.box.lt (by simp; omega)),
                ownN_keep HQa.out.oi (fun k hk => (show Tch Wa (Wa.setCell ⟨wr.heap.size, 35, none⟩ (.slice none 0 0)) [wr.heap.size] from Tch.of_grown (grown_setCell _ _ _) (by simp)).block k (HQa.out.oi.lt k hk).2 (by have := (HQ.out.oi.lt k hk).2; simp; omega)), HQa.out.gw⟩
            have HECc := Lib.hid ec
            have HRC := Lib.hid hrc
            have HSB := Lib.hid (show (Tryd.prog.info? 38).map (·.size) = some (bareM x).cells.length by rw [MIn.len (bareM_ok HIAa.out.ok)]; exact Tryd.sizeIn)
            obtain ⟨A2, cc2, hv2, _, _, _⟩ := own_rdN hQc.oi
            subst hv2
            obtain ⟨v6, w6, hrun, hc6, hf6, hs6⟩ := hQc.addIn (bareM x) (MIn.len (bareM_ok HIAa.out.ok)) HTL.out
            have HRUN := Lib.hid hrun
            have HLIT := Lib.hid (fun parts hp => lit_in Wc (bareM x).cells (MIn.len (bareM_ok HIAa.out.ok)) parts hp)
            have HNX : Hid (BaS W6 (w6.setCell ⟨W5.heap.size, 1, none⟩ v6) W5.heap.size ver lock v6 ((ins.take (i + 1)).map bareM) (.slice oa outs.length oc)) := Lib.hid (by rw [HTK.out]; exact hs6)
            obtain ⟨A6, cc6, hv6, _, _, _⟩ := own_rdN HNX.out.oi
            have cv := hQc.box.c1
            generalize hNL : ((ins.take i).map bareM).length = NL at *
            generalize hNM : ((ins.take (i + 1)).map bareM).length = NM at *
            subst hv6
            clear hs6 hrun hx hNL hNM ec tc hrc hQc
            generalize (bareM x).cells = BCX at *
            go_upto_region 12 with fail
            rw [← HECc.out]
            clear c35 f35
            go_upto_region 13 with (first
              | (show wpList _ _ _ (Oper.mk (some 40) _ _ _ _ _ :: _) _ _; refine wpList_load_mid rfl 38 (.tmp 8) rfl wr.heap.size 0 rfl BCX _ HRC.out Tryd.underlying38 rfl HSB.out ?_)
              | (show wpList _ _ _ (Oper.mk (some 41) _ _ _ _ _ :: _) _ _; refine arm_build1 22 (.tmp 40) (v' := ?_) (w' := ?_) ?hr1 ?_; case hr1 => exact HLIT.out _ rfl)
              | (show wpList _ _ _ (Oper.mk (some 42) _ _ _ _ _ :: _) _ _; refine arm_append 22 (.tmp 39) (.tmp 41) (v' := ?_) (w' := ?_) ?hr2 ?_; case hr2 => exact HRUN.out))
            clear cv hc6 hf6
            go_wp2
            go_roundg (n - (i + 1))
            case measure => omega
            case rel => exact ⟨i + 1, _, by omega, by go_num, Nat.le_refl _, HNX⟩
          · have HQ1 : Hid (BaS W6 wr W5.heap.size ver lock v (ins.map bareM) (.slice oa outs.length oc)) := Lib.hid (by
              have := HQ.out
              rwa [List.take_of_length_le (by have := HN.out; omega)] at this)
            obtain ⟨A1, cc1, hv1, hnc1, hcm1, hrd1⟩ := own_rdN HQ1.out.oi
            subst hv1
            have hln : (ins.map bareM).length = n := by rw [List.length_map]; exact HN.out.symm
            have HLN := Lib.hid hln
            have hq := HQ1.out
            rw [hln] at hq hrd1 hnc1
            have HR1 := Lib.hid hrd1
            obtain ⟨BC, hBC⟩ : ∃ BC : List Value, BC = [.int .i32 ver, .slice A1 n cc1, .slice oa outs.length oc, .int .u32 (lock : Int)] := ⟨_, rfl⟩
            have hbv : MTx.val ⟨ver, ins.map bareM, A1, cc1, outs, oa, oc, lock⟩ = .agg BC.toArray := by rw [hBC, ← hln]; rfl
            have hbp : MTx.p ⟨ver, ins.map bareM, A1, cc1, outs, oa, oc, lock⟩ = bareT P := by
              rw [HP.out]
              simp only [MTx.p, bareT, bareM_p]
            have hwr := (HDI.out _ hq.b).1
            have HTX : Hid (∀ wx, Below wr.heap.size wr wx → TxAt wx wx.heap.size ⟨ver, ins.map bareM, A1, cc1, outs, oa, oc, lock⟩ ∧ Bx4 wx W5.heap.size (.int .i32 ver) (.slice A1 n cc1) (.slice oa outs.length oc) (.int .u32 (lock : Int)) ∧ wx.rangeAt W5.heap.size 0 BC ∧ Below W3.heap.size W3 wx ∧ wx.rangeAt w4.heap.size 0 (bys D)) := Lib.hid (fun wx hx => by
              have hq2 := hq.more hx
              have h3 := (HDI.out _ hq2.b)
              have hta := (HK.out _ h3.1).2.1
              unfold maxLen at hcm1
              refine ⟨⟨?_, hta.outs, bareM_at HOK.out, hta.ook, hta.v0, hta.v1, hta.lock, ?_, by simp only; omega, hta.ol, hta.oc⟩, hq2.box, by rw [hBC]; exact hq2.box.rg, h3.1, h3.2⟩
              · rw [hln]; exact (hrd1.below hx).up hx.size
              · rw [hln]; exact hnc1)
            have HSZB := Lib.hid (show (Tryd.prog.info? 26).map (·.size) = some BC.length by rw [hBC]; kernel_rfl)
            have HEN := Lib.hid (encode_any wr _ _ (HTX.out wr (Below.refl _ _)).1 (Nat.le_refl _))
            rw [hbv, hbp, has_bareT, lay_bareT] at HEN
            have HIB : Hid (∀ wx, Below wr.heap.size wr wx → Calls Tryd.prog 8 #[.agg BC.toArray] wx fun e w' => e = .returned (.agg (bys D).toArray) ∧ Below wx.heap.size wx w') := Lib.hid (fun wx hx => by
              have h1 := HTX.out wx hx
              have h2 := id_any wx _ h1.1 (by rw [hbp, lay_bareT]; exact HFW2.out) (HK.out _ h1.2.2.2.1).2.2.2.1
              rw [hbv, hbp] at h2
              unfold idT at h2
              rw [lay_bareT] at h2
              rw [HDD.out]
              exact h2)
            have HRB := Lib.hid (HTX.out wr (Below.refl _ _)).2.2.1
            clear hBC hbv hbp hwr hq hln hnc1 hcm1 hrd1
            go_upto_region 14 with fail
            go_wp2_with (show wpList _ _ _ (Oper.mk (some 46) _ _ _ _ _ :: _) _ _; refine wpList_load_mid rfl 26 (.tmp 6) rfl W5.heap.size 0 rfl BC _ HRB.out Tryd.underlying26 rfl HSZB.out ?_)
            refine HEN.out.mono ?_
            rintro ee w8 ⟨v8, rfl, hz0, hz1, b8⟩
            have HB8 := Lib.hid b8
            rcases enc_bareT HC0.out with h0 | h6
            · have bf := hz0 h0
              rw [h0]
              obtain ⟨Ab, cb, hv8, hcl, hrd⟩ := bf.slice
              subst hv8
              have hcm := bf.cap_le
              have HDO : Hid (∀ wx, Below w8.heap.size w8 wx → Calls Tryd.prog 10 #[.slice Ab (layB P false).length cb] wx fun e w' => e = .returned (.agg (bys D).toArray) ∧ Below wx.heap.size wx w') := Lib.hid (fun wx hx => by
                have h2 := (HTX.out _ (HB8.out.trans (hx.mono HB8.out.size))).2.2.2.1
                have := double_any Ab (layB P false).length cb (layB P false) wx ((hrd.below hx).up hx.size) (layB_b8 HPK.out false) (by have := HFW2.out; omega) hcl hcm (HK.out _ h2).2.2.2.1
                rw [HDD.out]
                exact this)
              obtain ⟨NB, hNB⟩ : ∃ NB, NB = (layB P false).length := ⟨_, rfl⟩
              rw [← hNB] at HDO ⊢
              clear hNB hz0 hz1 b8 h0 bf hcl hrd hcm
              obtain ⟨x0, hx0⟩ : ∃ x0, (ins.map bareM)[0]? = some x0 := ⟨_, List.getElem?_eq_getElem (by
                have h1 := (chk_ok HC0.out).i0
                rw [HP.out] at h1
                simp only [MTx.p, List.length_map] at h1
                rw [List.length_map]
                omega)⟩
              have hx0ok := bareM_lens HOK.out x0 (List.mem_of_getElem? hx0)
              have hx0i := (bareM_at (w := w8) (B := 0) HOK.out x0 (List.mem_of_getElem? hx0)).ok
              have hn0 : 0 < n := by have := HLN.out; have := (List.getElem?_eq_some_iff.1 hx0).1; omega
              have k8 := (HTX.out _ HB8.out).2.1
              obtain ⟨W9, e9⟩ : ∃ W9, W9 = w8.alloc (.cells #[.int .i32 ver, .slice A1 n cc1, .slice oa outs.length oc, .int .u32 (lock : Int)] 26) := ⟨_, rfl⟩
              have b9 : Below w8.heap.size w8 W9 := by rw [e9]; exact (Below.refl _ _).alloc (Nat.le_refl _) _
              have k9 : Bx4 W9 w8.heap.size (.int .i32 ver) (.slice A1 n cc1) (.slice oa outs.length oc) (.int .u32 (lock : Int)) := by rw [e9]; exact Bx4.new _ _ _ _ _ _
              have hr9 : RdN W9 wr.heap.size 36 A1 n ((ins.map bareM).flatMap MIn.cells) := HR1.out.below (HB8.out.trans (b9.mono HB8.out.size))
              obtain ⟨v11, w11, hrun, hown, b11⟩ := copy_row W9 (c := cc1) hr9 (by have := HB8.out.size; have := b9.size; omega) in_one_all (by
                have h1 := (chk_ok HC0.out).i1
                rw [HP.out] at h1
                simp only [MTx.p, List.length_map] at h1
                have := HN.out
                omega)
              have k11 := k9.keep (b11.block _ k9.lt)
              obtain ⟨W12, e12⟩ : ∃ W12, W12 = w11.setCell ⟨w8.heap.size, 1, none⟩ v11 := ⟨_, rfl⟩
              have t12 : Tch w11 W12 [w8.heap.size] := by rw [e12]; exact Tch.of_grown (grown_setCell _ _ _) (by simp)
              have k12 := k11.set1 v11
              rw [← e12] at k12
              have hown12 := ownN_keep hown (fun k hk => t12.block k (hown.lt k hk).2 (by have := (hown.lt k hk).1; have := k9.lt; simp; omega))
              obtain ⟨gi, c', hv11, hgl, hgh, hsome, hfrz, hown13⟩ := row_wit hown12 (bareM_lens HOK.out) HLN.out x0 hx0 hx0i.id A L cap
              subst hv11
              obtain ⟨old, hold⟩ := Option.isSome_iff_exists.1 hsome
              clear hsome
              obtain ⟨W13, e13⟩ : ∃ W13, W13 = W12.setCell ⟨gi, 35, none⟩ (.slice A L.length cap) := ⟨_, rfl⟩
              have t13 : Tch W12 W13 [gi] := by rw [e13]; exact Tch.of_grown (grown_setCell _ _ _) (by simp)
              rw [← e13] at hown13
              have h9 := k9.lt
              have k13 := k12.keep (t13.block _ k12.lt (by simp; omega))
              have b13 : Below w8.heap.size w8 W13 := ((b9.trans (b11.mono b9.size)).trans ((t12.below (by have := b11.size; omega) (by simp)))).trans (t13.below (by have := t12.size; have := b11.size; omega) (by simp; omega))
              obtain ⟨A3, cc3, hv3, hnc3, hcm3, hrd3⟩ := own_rdN hown13
              injection hv3 with hv3a _ hv3c
              subst hv3a
              subst hv3c
              obtain ⟨OC, hOC⟩ : ∃ OC : List Value, OC = [.int .i32 ver, .slice (some ⟨gi, 0, none⟩) n c', .slice oa outs.length oc, .int .u32 (lock : Int)] := ⟨_, rfl⟩
              have hol : ((ins.map bareM).set 0 ⟨{ x0.p with wit := L }, A, cap⟩).length = n := by rw [List.length_set]; exact HLN.out
              have hov : MTx.val ⟨ver, (ins.map bareM).set 0 ⟨{ x0.p with wit := L }, A, cap⟩, some ⟨gi, 0, none⟩, c', outs, oa, oc, lock⟩ = .agg OC.toArray := by rw [hOC, ← hol]; rfl
              have hob : layB (MTx.p ⟨ver, (ins.map bareM).set 0 ⟨{ x0.p with wit := L }, A, cap⟩, some ⟨gi, 0, none⟩, c', outs, oa, oc, lock⟩) false = layB P false := by
                rw [HP.out]
                exact lay_bare rfl rfl rfl (set0_bare ins x0 hx0 A L cap)
              have HCH : Hid (∀ wx, Below W13.heap.size W13 wx → Below wr.heap.size wr wx ∧ Below w8.heap.size w8 wx) := Lib.hid (fun wx hx => by
                have h1 := b13.trans (hx.mono b13.size)
                exact ⟨HB8.out.trans (h1.mono HB8.out.size), h1⟩)
              have HIO : Hid (∀ wx, Below W13.heap.size W13 wx → (Calls Tryd.prog 8 #[.agg OC.toArray] wx fun e w' => e = .returned (.agg (bys D).toArray) ∧ Below wx.heap.size wx w') ∧ wx.rangeAt w8.heap.size 0 OC) := Lib.hid (fun wx hx => by
                have h1 := HTX.out wx (HCH.out wx hx).1
                have hK := HK.out _ h1.2.2.2.1
                unfold maxLen at hcm3
                have hta : TxAt wx wx.heap.size ⟨ver, (ins.map bareM).set 0 ⟨{ x0.p with wit := L }, A, cap⟩, some ⟨gi, 0, none⟩, c', outs, oa, oc, lock⟩ := by
                  refine ⟨?_, h1.1.outs, ?_, h1.1.ook, h1.1.v0, h1.1.v1, h1.1.lock, ?_, by simp only; omega, h1.1.ol, h1.1.oc⟩
                  · rw [hol]; exact (hrd3.below hx).up hx.size
                  · intro y hy
                    rcases List.mem_or_eq_of_mem_set hy with hy | rfl
                    · exact h1.1.iat y hy
                    · exact ⟨(HL.out.below hK.2.2.1).up hK.2.2.1.size, ⟨hx0i.id, hx0i.idb, hx0i.out, hx0i.sc, hx0i.scl, hx0i.seq, HLB.out⟩, HLC.out, HLM.out⟩
                  · rw [hol]; exact hnc3
                have h2 := id_any wx _ hta (by rw [hob]; exact HFW2.out) hK.2.2.2.1
                rw [hov] at h2
                unfold idT at h2
                rw [hob] at h2
                refine ⟨?_, ?_⟩
                · rw [HDD.out]; exact h2
                · rw [hOC]; exact rangeAt_below k13.rg hx k13.lt)
              have HSZO := Lib.hid (show (Tryd.prog.info? 26).map (·.size) = some OC.length by rw [hOC]; kernel_rfl)
              have HRUN := Lib.hid hrun
              have d0 := k8.c0
              have d1 := k8.c1
              have d2 := k8.c2
              have d3 := k8.c3
              have HE9 := Lib.hid e9
              have HE12 := Lib.hid e12
              have HE13 := Lib.hid e13
              have g1 : (W9.alloc (.cells #[] 38)).cell? ⟨W5.heap.size, 1, none⟩ = some (.slice A1 n cc1) := ((k8.keep (b9.block _ k8.lt)).alloc' _).c1
              have p1 := k11.c1
              have p2 := k11.cold 1
              have r1 := k12.c1
              clear hx0 hx0ok hx0i k8 e9 b9 k9 hr9 hrun hown b11 k11 e12 t12 k12 hown12 hgl hgh hown13 e13 t13 h9 k13 b13 hnc3 hcm3 hrd3 hOC hol hov hob
              go_upto_region 18 with fail
              rw [← HE9.out]
              clear d0 d1 d2 d3
              go_upto_region 19 with (show wpList _ _ _ (Oper.mk (some 58) _ _ _ _ _ :: _) _ _; refine arm_append 22 (.tmp 55) (.tmp 57) (v' := ?_) (w' := ?_) ?hr2 ?_; case hr2 => exact HRUN.out)
              rw [← HE12.out]
              clear g1 p1 p2
              go_upto_region 20 with fail
              rw [← HE13.out]
              clear r1 hold hfrz
              obtain ⟨i5, hi5, _⟩ := info_parts Tryd.info5
              have hEQ : ∀ wx, (Op.equalIn 10000 33 (.agg (bys D).toArray) (.agg (bys D).toArray)).run Tryd.prog wx = .ok true wx := fun wx => by
                have := run_eql_bys wx 33 5 32 .u8 i5 Tryd.underlying33 hi5 cells_u8 Tryd.underlying5 D D HIDL.out HIDL.out
                simpa using this
              have hgh := gu_hashI
              have HFI : Hid (Below w.heap.size w W13) := Lib.hid (HK.out _ (HTX.out _ (HCH.out _ (Below.refl _ _)).1).2.2.2.1).2.2.1
              clear hi5
              refine wp_region_noPanic ?_
              refine wp_region_held_drew (S := (fun wx => Below W13.heap.size W13 wx)) (by kernel_rfl) (Below.drew' (Below.refl _ _)) (fun hHeld => ?_)
              refine wpAnyH_take (i := 0) (v := .agg ((bys D)).toArray) (by simp only [List.getElem?_toArray, List.getElem?_cons_succ, List.getElem?_cons_zero]; rfl) (by kernel_rfl) (by kernel_rfl) (by kernel_rfl) (fun _ _ _ h => h) (yieldsIf_load_mid (by first | kernel_rfl | rfl) 33 (.tmp 5) rfl w4.heap.size (0) rfl ((bys D)) _ (fun wx hx => (HTX.out wx (HCH.out wx hx).1).2.2.2.2) Tryd.underlying33 rfl (HSZI.out)) (by assumption) ?_
              (try simp only [Act.put, List.setIfInBounds_toArray, List.set_cons_zero, List.set_cons_succ])
              refine wpAnyH_take (i := 1) (v := ?_) (by simp only [List.getElem?_toArray, List.getElem?_cons_succ, List.getElem?_cons_zero]; rfl) (by kernel_rfl) (by kernel_rfl) (by kernel_rfl) (fun _ _ _ h => h) (Or.inl ⟨by rfl, ?_⟩) (by assumption) ?_
              rotate_left
              · (intro w hSw; (try dsimp only at hSw); go_simp; (try with_reducible rfl))
              (try simp only [Act.put, List.setIfInBounds_toArray, List.set_cons_zero, List.set_cons_succ])
              refine wpAnyH_ready (rs := [2]) (by kernel_rfl) (by simp) ?_
              refine AllReadyH.cons (by simp only [List.getElem?_toArray, List.getElem?_cons_succ, List.getElem?_cons_zero]; rfl) (fun K hK => ?_) AllReadyH.nil
              go_simp
              refine (HDO.out _ (HCH.out _ hHeld).2).mono ?_
              rintro ee wa ⟨rfl, ba⟩
              refine hK.out _ _ ?_ (fun hHeld => ?_)
              · exact hHeld.trans (ba.mono hHeld.size)
              clear hK K
              (try simp only [Act.put, List.setIfInBounds_toArray, List.set_cons_zero, List.set_cons_succ])
              refine wpAnyH_take (i := 3) (v := ?_) (by simp only [List.getElem?_toArray, List.getElem?_cons_succ, List.getElem?_cons_zero]; rfl) (by kernel_rfl) (by kernel_rfl) (by kernel_rfl) (fun _ _ _ h => h) (Or.inl ⟨by rfl, ?_⟩) (by assumption) ?_
              rotate_left
              · (intro w hSw; (try dsimp only at hSw); go_simp; (try with_reducible rfl))
              (try simp only [Act.put, List.setIfInBounds_toArray, List.set_cons_zero, List.set_cons_succ])
              refine wpAnyH_take (i := 4) (v := ?_) (by simp only [List.getElem?_toArray, List.getElem?_cons_succ, List.getElem?_cons_zero]; rfl) (by kernel_rfl) (by kernel_rfl) (by kernel_rfl) (fun _ _ _ h => h) (Or.inl ⟨by rfl, ?_⟩) (by assumption) ?_
              rotate_left
              · (intro w hSw; (try dsimp only at hSw); go_simp; (try with_reducible rfl))
              (try simp only [Act.put, List.setIfInBounds_toArray, List.set_cons_zero, List.set_cons_succ])
              refine wpAnyH_take (i := 5) (v := .agg (BC).toArray) (by simp only [List.getElem?_toArray, List.getElem?_cons_succ, List.getElem?_cons_zero]; rfl) (by kernel_rfl) (by kernel_rfl) (by kernel_rfl) (fun _ _ _ h => h) (yieldsIf_load_mid (by first | kernel_rfl | rfl) 26 (.tmp 6) rfl W5.heap.size (0) rfl (BC) _ (fun wx hx => (HTX.out wx (HCH.out wx hx).1).2.2.1) Tryd.underlying26 rfl (HSZB.out)) (by assumption) ?_
              (try simp only [Act.put, List.setIfInBounds_toArray, List.set_cons_zero, List.set_cons_succ])
              refine wpAnyH_take (i := 7) (v := .agg ((bys D)).toArray) (by simp only [List.getElem?_toArray, List.getElem?_cons_succ, List.getElem?_cons_zero]; rfl) (by kernel_rfl) (by kernel_rfl) (by kernel_rfl) (fun _ _ _ h => h) (yieldsIf_load_mid (by first | kernel_rfl | rfl) 33 (.tmp 5) rfl w4.heap.size (0) rfl ((bys D)) _ (fun wx hx => (HTX.out wx (HCH.out wx hx).1).2.2.2.2) Tryd.underlying33 rfl (HSZI.out)) (by assumption) ?_
              (try simp only [Act.put, List.setIfInBounds_toArray, List.set_cons_zero, List.set_cons_succ])
              refine wpAnyH_ready (rs := [6]) (by kernel_rfl) (by simp) ?_
              refine AllReadyH.cons (by simp only [List.getElem?_toArray, List.getElem?_cons_succ, List.getElem?_cons_zero]; rfl) (fun K hK => ?_) AllReadyH.nil
              go_simp
              refine (HIB.out _ (HCH.out _ hHeld).1).mono ?_
              rintro ee wb ⟨rfl, bb⟩
              refine hK.out _ _ ?_ (fun hHeld => ?_)
              · exact hHeld.trans (bb.mono hHeld.size)
              clear hK K
              (try simp only [Act.put, List.setIfInBounds_toArray, List.set_cons_zero, List.set_cons_succ])
              refine wpAnyH_take (i := 8) (v := ?_) (by simp only [List.getElem?_toArray, List.getElem?_cons_succ, List.getElem?_cons_zero]; rfl) (by kernel_rfl) (by kernel_rfl) (by kernel_rfl) (fun _ _ _ h => h) (Or.inl ⟨by rfl, ?_⟩) (by assumption) ?_
              rotate_left
              · (intro w hSw; (try dsimp only at hSw); go_simp; (try with_reducible rfl))
              (try simp only [Act.put, List.setIfInBounds_toArray, List.set_cons_zero, List.set_cons_succ])
              refine wpAnyH_take (i := 9) (v := ?_) (by simp only [List.getElem?_toArray, List.getElem?_cons_succ, List.getElem?_cons_zero]; rfl) (by kernel_rfl) (by kernel_rfl) (by kernel_rfl) (fun _ _ _ h => h) (Or.inl ⟨by rfl, ?_⟩) (by assumption) ?_
              rotate_left
              · (intro w hSw; (try dsimp only at hSw); go_simp; (try with_reducible rfl))
              (try simp only [Act.put, List.setIfInBounds_toArray, List.set_cons_zero, List.set_cons_succ])
              refine wpAnyH_take (i := 10) (v := ?_) (by simp only [List.getElem?_toArray, List.getElem?_cons_succ, List.getElem?_cons_zero]; rfl) (by kernel_rfl) (by kernel_rfl) (by kernel_rfl) (fun _ _ _ h => h) (Or.inl ⟨by rfl, ?_⟩) (by assumption) ?_
              rotate_left
              · (intro w hSw; (try dsimp only at hSw); go_simp; (try with_reducible rfl))
              (try simp only [Act.put, List.setIfInBounds_toArray, List.set_cons_zero, List.set_cons_succ])
              refine wpAnyH_take (i := 11) (v := .agg (OC).toArray) (by simp only [List.getElem?_toArray, List.getElem?_cons_succ, List.getElem?_cons_zero]; rfl) (by kernel_rfl) (by kernel_rfl) (by kernel_rfl) (fun _ _ _ h => h) (yieldsIf_load_mid (by first | kernel_rfl | rfl) 26 (.tmp 11) rfl w8.heap.size (0) rfl (OC) _ (fun wx hx => (HIO.out wx hx).2) Tryd.underlying26 rfl (HSZO.out)) (by assumption) ?_
              (try simp only [Act.put, List.setIfInBounds_toArray, List.set_cons_zero, List.set_cons_succ])
              refine wpAnyH_take (i := 13) (v := .agg ((bys D)).toArray) (by simp only [List.getElem?_toArray, List.getElem?_cons_succ, List.getElem?_cons_zero]; rfl) (by kernel_rfl) (by kernel_rfl) (by kernel_rfl) (fun _ _ _ h => h) (yieldsIf_load_mid (by first | kernel_rfl | rfl) 33 (.tmp 5) rfl w4.heap.size (0) rfl ((bys D)) _ (fun wx hx => (HTX.out wx (HCH.out wx hx).1).2.2.2.2) Tryd.underlying33 rfl (HSZI.out)) (by assumption) ?_
              (try simp only [Act.put, List.setIfInBounds_toArray, List.set_cons_zero, List.set_cons_succ])
              refine wpAnyH_ready (rs := [12]) (by kernel_rfl) (by simp) ?_
              refine AllReadyH.cons (by simp only [List.getElem?_toArray, List.getElem?_cons_succ, List.getElem?_cons_zero]; rfl) (fun K hK => ?_) AllReadyH.nil
              go_simp
              refine (HIO.out _ hHeld).1.mono ?_
              rintro ee wd ⟨rfl, bd⟩
              refine hK.out _ _ ?_ (fun hHeld => ?_)
              · exact hHeld.trans (bd.mono hHeld.size)
              clear hK K
              (try simp only [Act.put, List.setIfInBounds_toArray, List.set_cons_zero, List.set_cons_succ])
              refine wpAnyH_take (i := 14) (v := ?_) (by simp only [List.getElem?_toArray, List.getElem?_cons_succ, List.getElem?_cons_zero]; rfl) (by kernel_rfl) (by kernel_rfl) (by kernel_rfl) (fun _ _ _ h => h) (Or.inl ⟨by rfl, ?_⟩) (by assumption) ?_
              rotate_left
              · (intro w hSw; (try dsimp only at hSw); go_simp; (try with_reducible rfl))
              (try simp only [Act.put, List.setIfInBounds_toArray, List.set_cons_zero, List.set_cons_succ])
              refine wpAnyH_take (i := 15) (v := ?_) (by simp only [List.getElem?_toArray, List.getElem?_cons_succ, List.getElem?_cons_zero]; rfl) (by kernel_rfl) (by kernel_rfl) (by kernel_rfl) (fun _ _ _ h => h) (Or.inl ⟨by rfl, ?_⟩) (by assumption) ?_
              rotate_left
              · (intro w hSw; (try dsimp only at hSw); go_simp; (try with_reducible rfl))
              (try simp only [Act.put, List.setIfInBounds_toArray, List.set_cons_zero, List.set_cons_succ])
              refine wpAnyH_take (i := 16) (v := ?_) (by simp only [List.getElem?_toArray, List.getElem?_cons_succ, List.getElem?_cons_zero]; rfl) (by kernel_rfl) (by kernel_rfl) (by kernel_rfl) (fun _ _ _ h => h) (Or.inl ⟨by rfl, ?_⟩) (by assumption) ?_
              rotate_left
              · (intro w hSw; (try dsimp only at hSw); go_simp; (try with_reducible rfl))
              (try simp only [Act.put, List.setIfInBounds_toArray, List.set_cons_zero, List.set_cons_succ])
              refine wpAnyH_done (by kernel_rfl) ?_ _
              refine NoPanic.normal ?_
              clear hEQ hgh
              go_wp2_with fail
              go_ret
              exact ⟨rfl, HFI.out.trans (hHeld.mono HFI.out.size)⟩
            · rw [h6]
              go_wp2
              go_ret
              exact ⟨rfl, (HK.out _ (HTX.out _ HB8.out).2.2.2.1).2.2.1⟩
      · have hq1 : ((chk P : Int) != 0) = true := by simp [bne]; omega
        have hq2 : ((chk P : Int) == 0) = false := by simp; omega
        clear hc
        go_wp2
        go_ret
        exact ⟨rfl, (HK.out _ HB3'.out).2.2.1⟩
end Go.Proofs.YtdppnicbpdjanaaDoor
