/- Walks: the law's Plain. -/
import Derived.Test.YtkdkihacpjhgmaaZ2
namespace Go.Proofs.Ytkdkihacpjhgmaa
set_option linter.unusedSimpArgs false
set_option linter.unusedVariables false
open Go.RowKit

theorem built_rtx (ver : Int) (lock : Nat) : Try.prog.built 38 [(0, .int .i32 ver), (3, .int .u32 (lock : Int))] = some #[.int .i32 ver, .slice none 0 0, .slice none 0 0, .int .u32 (lock : Int)] := by kernel_rfl
theorem fM_one {l : List MIn} {i : Nat} {x : MIn} (h : l[i]? = some x) : l.take (i + 1) = l.take i ++ [x] := take_one h

set_option maxHeartbeats 4000000 in
set_option maxRecDepth 100000 in
theorem plain_any (w : World) (t : MTx) (h : TxAt w w.heap.size t) (hi1 : t.ins.length ≤ 100000) (hi2 : t.outs.length ≤ 100000) :
    Calls Try.prog 12 #[t.val] w fun e w' => ∃ r : MTx, e = .returned r.val ∧ r.p = t.p ∧ TxAt w' w'.heap.size r ∧ Below w.heap.size w w' := by
  obtain ⟨ver, ins, ia, ic, outs, oa, oc, lock⟩ := t
  have hil : (ins.length : Int) ≤ 100000 := by simp only at hi1; omega
  have hol : (outs.length : Int) ≤ 100000 := by simp only at hi2; omega
  have HT := Lib.hid h
  show Calls Try.prog 12 #[.agg #[.int .i32 ver, .slice ia ins.length ic, .slice oa outs.length oc, .int .u32 (lock : Int)]] w _
  obtain ⟨n, hn⟩ : ∃ n, n = ins.length := ⟨_, rfl⟩
  obtain ⟨m, hm⟩ : ∃ m, m = outs.length := ⟨_, rfl⟩
  rw [← hn] at hil ⊢
  rw [← hm] at hol ⊢
  have HN := Lib.hid hn
  have HM := Lib.hid hm
  obtain ⟨W3, e3⟩ : ∃ W3, W3 = w.alloc (.cells #[.int .i32 ver, .slice ia n ic, .slice oa m oc, .int .u32 (lock : Int)] 26) := ⟨_, rfl⟩
  have hB3 : Below w.heap.size w W3 := by rw [e3]; exact (Below.refl _ _).alloc (Nat.le_refl _) _
  have k0 : Bx4 W3 w.heap.size (.int .i32 ver) (.slice ia n ic) (.slice oa m oc) (.int .u32 (lock : Int)) := by rw [e3]; exact Bx4.new _ _ _ _ _ _
  have s3 : W3.heap.size = w.heap.size + 1 := by rw [e3]; simp
  obtain ⟨W4, e4⟩ : ∃ W4, W4 = W3.alloc (.cells #[.int .i32 0, .slice none 0 0, .slice none 0 0, .int .u32 0] 38) := ⟨_, rfl⟩
  have b4 : Below W3.heap.size W3 W4 := by rw [e4]; exact (Below.refl _ _).alloc (Nat.le_refl _) _
  have k4 : Bx4 W4 W3.heap.size (.int .i32 0) (.slice none 0 0) (.slice none 0 0) (.int .u32 0) := by rw [e4]; exact Bx4.new _ _ _ _ _ _
  have s4 : W4.heap.size = w.heap.size + 2 := by rw [e4]; simp [s3]
  rw [s3] at k4
  have k5 := k0.keep (b4.block _ k0.lt)
  have c0 := k5.c0
  have c1 := k5.c1
  have c3 := k5.c3
  obtain ⟨WB, eB⟩ : ∃ WB, WB = W4.alloc (.cells #[.int .i32 ver, .slice none 0 0, .slice none 0 0, .int .u32 (lock : Int)] 38) := ⟨_, rfl⟩
  have bB : Below W4.heap.size W4 WB := by rw [eB]; exact (Below.refl _ _).alloc (Nat.le_refl _) _
  have kB : Bx4 WB W4.heap.size (.int .i32 ver) (.slice none 0 0) (.slice none 0 0) (.int .u32 (lock : Int)) := by rw [eB]; exact Bx4.new _ _ _ _ _ _
  have kP := k5.keep (bB.block _ k5.lt)
  have kR := k4.keep (bB.block _ k4.lt)
  have sB : WB.heap.size = w.heap.size + 3 := by rw [eB]; simp [s4]
  have HBB : Hid (Below w.heap.size w WB) := Lib.hid (hB3.trans ((b4.trans (bB.mono b4.size)).mono hB3.size))
  have H0 : Hid (PlS WB WB W4.heap.size ver lock (.slice none 0 0) [] (.slice none 0 0) []) := Lib.hid
    ⟨Below.refl _ _, kB, World.ownsRow_nil _ _ _ _, World.ownsRow_nil _ _ _ _, by omega, by simp [Value.ownBlock]⟩
  have HKW : Hid (∀ wx, Below W4.heap.size WB wx → Bx4 wx w.heap.size (.int .i32 ver) (.slice ia n ic) (.slice oa m oc) (.int .u32 (lock : Int)) ∧ Bx4 wx (w.heap.size + 1) (.int .i32 0) (.slice none 0 0) (.slice none 0 0) (.int .u32 0) ∧ Below w.heap.size w wx) :=
    Lib.hid (fun wx hx => ⟨kP.keep (hx.block _ (by omega)), kR.keep (hx.block _ (by omega)), HBB.out.trans (hx.mono (by omega))⟩)
  have cp1 := kP.c1
  have HE3 := Lib.hid e3
  have HE4 := Lib.hid e4
  have HEB := Lib.hid eB
  have HS4 := Lib.hid s4
  clear e3 e4 eB hn hm h hi1 hi2 hB3 k0 s3 b4 k4 s4 k5 bB kB kP kR sB
  go_enter Try.func12, Try.ntmps12
  go_upto_region 1 with fail
  rw [← HE3.out, ← HE4.out]
  go_upto_region 2 with (refine wpList_of_wp rfl fun K hK => wp_built 38 _ rfl _ (by simpa using built_rtx _ _) (hK _ _ ?_))
  rw [← HEB.out]
  clear c0 c1 c3
  go_upto_region 3 with fail
  clear cp1
  go_loopg [5, 16] n (fun kx s5 s16 wr => ∃ (i : Nat) (v : Value), i ≤ n ∧ s16 = .int .i64 i ∧ n - i ≤ kx ∧ Hid (PlS WB wr W4.heap.size ver lock v (ins.take i) (.slice none 0 0) []))
  case atStart => exact ⟨0, _, Nat.zero_le _, rfl, Nat.le_refl _, by simpa using H0⟩
  case round =>
    obtain ⟨i, v, hi, rfl, hk, HP⟩ := hrel
    have HW := Lib.hid (HKW.out _ HP.out.b).2.2
    by_cases hlt : i < n
    · obtain ⟨x, hx⟩ : ∃ x, ins[i]? = some x := ⟨_, List.getElem?_eq_getElem (by have := HN.out; omega)⟩
      have HTK : Hid (ins.take (i + 1) = ins.take i ++ [x]) := Lib.hid (take_one hx)
      have HTL : Hid ((ins.take i).length ≤ 100000) := Lib.hid (by rw [List.length_take]; omega)
      obtain ⟨ga, offa, hgaa, hga, cxa⟩ := (HT.out.below HW.out).inp i x hx
      simp only at hgaa
      subst hgaa
      have HIAa := Lib.hid ((HT.out.below HW.out).iat x (List.mem_of_getElem? hx))
      have hlena : (x).cells.length = 36 := MIn.len HIAa.out.ok
      have HATa := Lib.hid (show (x).cells[32]? = _ ∧ (x).cells[33]? = _ ∧ (x).cells[34]? = _ ∧ (x).cells[35]? = _ from inC_at (out := (x).p.out) (sc := (x).p.sc) (seq := (x).p.seq) (W := .slice (x).wa (x).p.wit.length (x).wc) HIAa.out.ok.id)
      have HAIa := Lib.hid (show ∀ (j : Nat) (u : Value), (bys (x).p.id)[j]? = some u → (x).cells[j]? = some u from fun j u hu => inC_id j u hu)
      have honea : ∀ u ∈ (x).cells, u.oneCell' = true := inC_one
      obtain ⟨Ca, hCa⟩ : ∃ C, C = (x).cells := ⟨_, rfl⟩
      rw [← hCa] at HATa HAIa honea hlena cxa
      have HCa := Lib.hid hCa
      have HTHa := Lib.hid (cpr_there 58 wr Ca hlena)
      obtain ⟨Wa, ea, kba, ba, sa⟩ := cpr_pack 58 wr Ca hlena
      have KBa := Lib.hid kba
      have HBa := Lib.hid (HW.out.trans (ba.mono HW.out.size))
      have HDa := Lib.hid ba
      have HSa := Lib.hid sa
      have HCXa := Lib.hid cxa
      have HS1a := Lib.hid (show (Try.prog.info? 58).map (·.size) = some Ca.length by rw [hlena]; exact Try.sizeIn)
      have HS2a := Lib.hid (show (Try.prog.info? 58).map (·.size) = some Ca.toArray.size by rw [List.size_toArray, hlena]; exact Try.sizeIn)
      have HONEa := Lib.hid (all_oneCell_toArray honea)
      have HEa := Lib.hid ea
      clear honea hlena cxa kba ba sa ea hCa
      go_upto_region 5 with (first
        | (show wpList _ _ _ (Oper.mk (some 19) _ _ _ _ _ :: _) _ _; refine wpList_load_mid rfl 58 (.tmp 18) rfl ga (offa + i * 36) rfl Ca _ HCXa.out Try.underlying58 rfl HS1a.out ?_)
        | (show wpList _ _ _ (Oper.mk (some 5) _ _ _ _ _ :: _) _ _; refine wpList_of_wp rfl fun K hK => wp_alloc_arr 58 rfl ZIN.toArray Try.zeroIn (hK _ _ ?_))
        | (show wpList _ _ _ (Oper.mk none _ _ _ _ _ :: _) _ _; refine wpList_store_mid rfl 58 (.tmp 5) (.tmp 19) rfl wr.heap.size 0 Ca.toArray rfl rfl HTHa.out HS2a.out HONEa.out ?_))
      rw [← HEa.out]
      have HPa := Lib.hid (HP.out.more HDa.out)
      have c32 := KBa.out.cell 32 _ HATa.out.1
      have c33 := KBa.out.cell 33 _ HATa.out.2.1
      have c34 := KBa.out.cell 34 _ HATa.out.2.2.1
      have c35 := KBa.out.cell 35 _ HATa.out.2.2.2
      have HRI : Hid (Wa.rangeAt wr.heap.size 0 (bys x.p.id)) := Lib.hid (fun j u hu => KBa.out.range j u (HAIa.out j u hu))
      have HSH := Lib.hid (show (Try.prog.info? 53).map (·.size) = some (bys x.p.id).length by rw [bys_len, HIAa.out.ok.id]; exact Try.sizeHash)
      obtain ⟨A2, cc2, hv2, _, _, _⟩ := own_rdN HPa.out.oi
      subst hv2
      obtain ⟨v6, w6, hrun, hc6, hf6, hs6⟩ := HPa.out.addIn x (MIn.len HIAa.out.ok) HTL.out
      have HRUN := Lib.hid hrun
      have HLIT := Lib.hid (fun parts hp => lit_rin Wa x.cells (MIn.len HIAa.out.ok) parts hp)
      have HBU : Hid (Try.prog.built 65 [(0, .agg (bys x.p.id).toArray), (1, .int .u32 (x.p.out : Int)), (2, .string (strB x.p.sc)), (3, .int .u32 (x.p.seq : Int)), (4, .slice x.wa x.p.wit.length x.wc)] = some x.cells.toArray) := Lib.hid (built_rin _ _ _ _ _ _ _ HIAa.out.ok.id)
      have HNX : Hid (PlS WB (w6.setCell ⟨W4.heap.size, 1, none⟩ v6) W4.heap.size ver lock v6 (ins.take (i + 1)) (.slice none 0 0) []) := Lib.hid (by rw [HTK.out]; exact hs6)
      obtain ⟨A6, cc6, hv6, _, _, _⟩ := own_rdN HNX.out.oi
      have cv := HPa.out.box.c1
      generalize hNL : (ins.take i).length = NL at *
      generalize hNM : (ins.take (i + 1)).length = NM at *
      subst hv6
      clear hs6 hrun hx hNL hNM
      go_upto_region 6 with (first
        | (show wpList _ _ _ (Oper.mk (some 24) _ _ _ _ _ :: _) _ _; refine wpList_load_mid rfl 53 (.tmp 23) rfl wr.heap.size 0 rfl (bys x.p.id) _ HRI.out Try.underlying53 rfl HSH.out ?_)
        | (show wpList _ _ _ (Oper.mk (some 34) _ _ _ _ _ :: _) _ _; refine wpList_of_wp rfl fun K hK => wp_built 65 _ rfl x.cells.toArray (by rw [Array.toList_map]; exact HBU.out) (hK _ _ ?_))
        | (show wpList _ _ _ (Oper.mk (some 35) _ _ _ _ _ :: _) _ _; refine arm_build1 35 (.tmp 34) (v' := ?_) (w' := ?_) ?hr1 ?_; case hr1 => exact HLIT.out _ rfl)
        | (show wpList _ _ _ (Oper.mk (some 36) _ _ _ _ _ :: _) _ _; refine arm_append 35 (.tmp 21) (.tmp 35) (v' := ?_) (w' := ?_) ?hr2 ?_; case hr2 => exact HRUN.out))
      clear c32 c33 c34 c35 cv hc6 hf6
      go_wp2
      go_roundg (n - (i + 1))
      case measure => omega
      case rel => exact ⟨i + 1, _, by omega, by go_num, Nat.le_refl _, HNX⟩
    · have HP1 : Hid (PlS WB wr W4.heap.size ver lock v ins (.slice none 0 0) []) := Lib.hid (by
        have := HP.out
        rwa [List.take_of_length_le (by have := HN.out; omega)] at this)
      have cp2 := (HKW.out _ HP1.out.b).1.c2
      go_upto_region 8 with fail
      clear cp2
      go_loopg [7, 42] m (fun kx s7 s42 wr => ∃ (j : Nat) (u : Value), j ≤ m ∧ s42 = .int .i64 j ∧ m - j ≤ kx ∧ Hid (PlS WB wr W4.heap.size ver lock v ins u (outs.take j)))
      case atStart => exact ⟨0, _, Nat.zero_le _, rfl, Nat.le_refl _, by simpa using HP1⟩
      case round =>
        clear HP HP1 HW
        obtain ⟨j, u, hj, rfl, hkj, HQ⟩ := hrel
        have HWQ := Lib.hid (HKW.out _ HQ.out.b).2.2
        by_cases hlj : j < m
        · obtain ⟨p, hp⟩ : ∃ p, outs[j]? = some p := ⟨_, List.getElem?_eq_getElem (by have := HM.out; omega)⟩
          have HTK : Hid (outs.take (j + 1) = outs.take j ++ [p]) := Lib.hid (take_one hp)
          have HTL : Hid ((outs.take j).length ≤ 100000) := Lib.hid (by rw [List.length_take]; omega)
          obtain ⟨ga, oa2, hoa, hga, ca, cb⟩ := (HT.out.below HWQ.out).outp j p hp
          simp only at hoa
          subst hoa
          obtain ⟨W9, e9⟩ : ∃ W9, W9 = wr.alloc (.cells #[.int .i64 p.coins, .string (strB p.sc)] 49) := ⟨_, rfl⟩
          have b9 : Below wr.heap.size wr W9 := by rw [e9]; exact (Below.refl _ _).alloc (Nat.le_refl _) _
          have x9 : Bx2 W9 wr.heap.size (.int .i64 p.coins) (.string (strB p.sc)) := by rw [e9]; exact Bx2.new _ _ _ _
          have HQ9 := Lib.hid (HQ.out.more b9)
          have HE9 := Lib.hid e9
          obtain ⟨A2, cc2, hv2, _, _, _⟩ := own_rdN HQ9.out.oo
          subst hv2
          obtain ⟨v6, w6, hrun, hc6, hf6, hs6⟩ := HQ9.out.addOut p HTL.out
          have HRUN := Lib.hid hrun
          have HLIT := Lib.hid (fun parts hp => lit_rout W9 p parts hp)
          have HNX : Hid (PlS WB (w6.setCell ⟨W4.heap.size, 2, none⟩ v6) W4.heap.size ver lock v ins v6 (outs.take (j + 1))) := Lib.hid (by rw [HTK.out]; exact hs6)
          obtain ⟨A6, cc6, hv6, _, _, _⟩ := own_rdN HNX.out.oo
          have cv := HQ9.out.box.c2
          have d0 := x9.c0
          have d1 := x9.c1
          generalize hNL : (outs.take j).length = NL at *
          generalize hNM : (outs.take (j + 1)).length = NM at *
          subst hv6
          clear hs6 hrun hp hNL hNM x9 b9 e9
          go_upto_region 10 with fail
          rw [← HE9.out]
          clear ca cb
          go_upto_region 11 with (first
            | (show wpList _ _ _ (Oper.mk (some 49) _ _ _ _ _ :: _) _ _; refine arm_build1 36 (.tmp 48) (v' := ?_) (w' := ?_) ?hr1 ?_; case hr1 => exact HLIT.out _ rfl)
            | (show wpList _ _ _ (Oper.mk (some 50) _ _ _ _ _ :: _) _ _; refine arm_append 36 (.tmp 47) (.tmp 49) (v' := ?_) (w' := ?_) ?hr2 ?_; case hr2 => exact HRUN.out))
          clear cv hc6 hf6 d0 d1
          go_wp2
          go_roundg (m - (j + 1))
          case measure => omega
          case rel => exact ⟨j + 1, _, by omega, by go_num, Nat.le_refl _, HNX⟩
        · have HQ1 : Hid (PlS WB wr W4.heap.size ver lock v ins u outs) := Lib.hid (by
            have := HQ.out
            rwa [List.take_of_length_le (by have := HM.out; omega)] at this)
          obtain ⟨A1, cc1, hv1, _⟩ := own_rdN HQ1.out.oi
          obtain ⟨A2, cc2, hv2, _⟩ := own_rdN HQ1.out.oo
          subst hv1
          subst hv2
          have HFI : Hid (∀ X, X = ((((wr.setCell ⟨w.heap.size + 1, 0, none⟩ (.int .i32 ver)).setCell ⟨w.heap.size + 1, 1, none⟩ (.slice A1 ins.length cc1)).setCell ⟨w.heap.size + 1, 2, none⟩ (.slice A2 outs.length cc2)).setCell ⟨w.heap.size + 1, 3, none⟩ (.int .u32 (lock : Int))) →
              Bx4 X (w.heap.size + 1) (.int .i32 ver) (.slice A1 ins.length cc1) (.slice A2 outs.length cc2) (.int .u32 (lock : Int)) ∧ TxAt X X.heap.size ⟨ver, ins, A1, cc1, outs, A2, cc2, lock⟩ ∧ Below w.heap.size w X) := Lib.hid (by
            rintro X rfl
            have hk := HKW.out _ HQ1.out.b
            have t0 := tch_stored wr (w.heap.size + 1) (.int .i32 ver) (.slice A1 ins.length cc1) (.slice A2 outs.length cc2) (.int .u32 (lock : Int))
            have h4 := HS4.out
            have oi := ownN_keep HQ1.out.oi (fun k hk => t0.block k (HQ1.out.oi.lt k hk).2 (by have := (HQ1.out.oi.lt k hk).1; simp; omega))
            have oo := ownN_keep HQ1.out.oo (fun k hk => t0.block k (HQ1.out.oo.lt k hk).2 (by have := (HQ1.out.oo.lt k hk).1; simp; omega))
            have bx := hk.2.1.stored (.int .i32 ver) (.slice A1 ins.length cc1) (.slice A2 outs.length cc2) (.int .u32 (lock : Int))
            have bw : Below w.heap.size w ((((wr.setCell ⟨w.heap.size + 1, 0, none⟩ (.int .i32 ver)).setCell ⟨w.heap.size + 1, 1, none⟩ (.slice A1 ins.length cc1)).setCell ⟨w.heap.size + 1, 2, none⟩ (.slice A2 outs.length cc2)).setCell ⟨w.heap.size + 1, 3, none⟩ (.int .u32 (lock : Int))) :=
              hk.2.2.trans (t0.below hk.2.2.size (by simp))
            generalize ((((wr.setCell ⟨w.heap.size + 1, 0, none⟩ (.int .i32 ver)).setCell ⟨w.heap.size + 1, 1, none⟩ (.slice A1 ins.length cc1)).setCell ⟨w.heap.size + 1, 2, none⟩ (.slice A2 outs.length cc2)).setCell ⟨w.heap.size + 1, 3, none⟩ (.int .u32 (lock : Int))) = X at *
            obtain ⟨B1, f1, g1, i1, j1, r1⟩ := own_rdN oi
            obtain ⟨B2, f2, g2, i2, j2, r2⟩ := own_rdN oo
            injection g1 with g1a _ g1c
            injection g2 with g2a _ g2c
            subst g1a; subst g1c; subst g2a; subst g2c
            have hta := (HT.out.below bw).up bw.size
            unfold maxLen at j1 j2
            exact ⟨bx, ⟨r1, r2, hta.iat, hta.ook, hta.v0, hta.v1, hta.lock, i1, by simp only; omega, i2, by simp only; omega⟩, bw⟩)
          have hk := HKW.out _ HQ1.out.b
          have y0 := hk.2.1.c0
          have y1 := hk.2.1.c1
          have y2 := hk.2.1.c2
          have y3 := hk.2.1.c3
          have f0 := hk.2.1.cold 0
          have f1 := hk.2.1.cold 1
          have f2 := hk.2.1.cold 2
          have f3 := hk.2.1.cold 3
          have d0 := HQ1.out.box.c0
          have d1 := HQ1.out.box.c1
          have d2 := HQ1.out.box.c2
          have d3 := HQ1.out.box.c3
          clear hk
          go_wp2
          have HFX := HFI.out _ rfl
          have q0 := HFX.1.c0
          have q1 := HFX.1.c1
          have q2 := HFX.1.c2
          have q3 := HFX.1.c3
          refine bodyPost_ret (v := .agg #[.int .i32 ver, .slice A1 ins.length cc1, .slice A2 outs.length cc2, .int .u32 (lock : Int)]) (by simp [results, Try.results12, go_sem, q0, q1, q2, q3]) rfl ⟨⟨ver, ins, A1, cc1, outs, A2, cc2, lock⟩, rfl, rfl, HFX.2.1, HFX.2.2⟩
end Go.Proofs.Ytkdkihacpjhgmaa
