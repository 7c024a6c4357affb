/- Walks: the reference's Lay. -/
import Derived.Test.YtkdkihacpjhgmaaRA
namespace Go.Proofs.Ytkdkihacpjhgmaa
set_option linter.unusedSimpArgs false
set_option linter.unusedVariables false
open Go.RowKit

theorem leB4_mod (x : Nat) : M.leB (x % 4294967296) 4 = M.leB x 4 := by
  simp [M.leB, List.range_succ]
  omega
theorem u32_uw (v : Int) : v % 4294967296 = ((uw v % 4294967296 : Nat) : Int) := by unfold uw; omega
theorem Blk.outX {W W0 wr : World} {v : Value} {ys : List Nat} {C : List Value} {T : TypeId} (h : OutB W W0 v ys) (b : Below W0.heap.size W0 wr) (k : Blk wr W0.heap.size T C.toArray) : OutX W wr v ys W0.heap.size C :=
  ⟨h.more b, k.range, k.lt, fun g hg e => by have := (h.buf.lt g hg).2; omega⟩
theorem Bx2.outX {W W0 wr : World} {v : Value} {ys : List Nat} {a c : Value} (h : OutB W W0 v ys) (b : Below W0.heap.size W0 wr) (k : Bx2 wr W0.heap.size a c) : OutX W wr v ys W0.heap.size [a, c] :=
  ⟨h.more b, fun j u hu => by
    rw [Nat.zero_add]
    match j, hu with
    | 0, hu => simp at hu; subst hu; exact k.c0
    | 1, hu => simp at hu; subst hu; exact k.c1, k.lt, fun g hg e => by have := (h.buf.lt g hg).2; omega⟩
theorem OutX.at_ {W wr : World} {v : Value} {ys : List Nat} {g : Nat} {C : List Value} (h : OutX W wr v ys g C) (j : Nat) (u : Value) (hu : C[j]? = some u) : wr.cell? ⟨g, j, none⟩ = some u := by
  have := h.r j u hu
  rwa [Nat.zero_add] at this

set_option maxHeartbeats 8000000 in
set_option maxRecDepth 100000 in
theorem reflayF_any (w : World) (t : MTx) (h : TxAt w w.heap.size t) (hck : chk t.p = 0) :
    Calls Try.prog 23 #[t.val, .bool false] w fun e w' => ∃ v', e = .returned v' ∧ Buf w' w.heap.size v' (layB t.p false).length (bys (layB t.p false)) ∧ Below w.heap.size w w' := by
  obtain ⟨i0, hi5, hz0, hz1, hz2⟩ := info_parts Try.info5
  have HSM := Lib.hid (small_of hck h.pok)
  obtain ⟨ver, ins, ia, ic, outs, oa, oc, lock⟩ := t
  have hil : (ins.length : Int) ≤ 1024 := by have := HSM.out.i1; simp [MTx.p] at this; omega
  have hol : (outs.length : Int) ≤ 1024 := by have := HSM.out.o1; simp [MTx.p] at this; omega
  have HSI : Hid (∀ x ∈ ins, x.p.small) := Lib.hid (fun x hx => HSM.out.ins x.p (by simp only [MTx.p, List.mem_map]; exact ⟨x, hx, rfl⟩))
  have HSO : Hid (∀ q ∈ outs, q.small) := Lib.hid (fun x hx => HSM.out.outs x hx)
  have HLK := Lib.hid h.lock
  have HT := Lib.hid h
  have HLB := Lib.hid (layB_is ver ins ia ic outs oa oc lock false)
  simp only [Bool.false_eq_true, if_false, List.append_nil] at HLB
  generalize layB (MTx.p ⟨ver, ins, ia, ic, outs, oa, oc, lock⟩) false = LB at *
  show Calls Try.prog 23 #[.agg #[.int .i32 ver, .slice ia ins.length ic, .slice oa outs.length oc, .int .u32 (lock : Int)], .bool false] w _
  obtain ⟨n, hn⟩ : ∃ n, n = ins.length := ⟨_, rfl⟩
  obtain ⟨m, hm⟩ : ∃ m, m = outs.length := ⟨_, rfl⟩
  rw [← hn] at hil HLB ⊢
  rw [← hm] at hol HLB ⊢
  have HN := Lib.hid hn
  have HM := Lib.hid hm
  obtain ⟨W3, e3⟩ : ∃ W3, W3 = w.alloc (.cells #[.int .i32 ver, .slice ia n ic, .slice oa m oc, .int .u32 (lock : Int)] 38) := ⟨_, rfl⟩
  have hB3 : Below w.heap.size w W3 := by rw [e3]; exact (Below.refl _ _).alloc (Nat.le_refl _) _
  have k0 : Bx4 W3 w.heap.size (.int .i32 ver) (.slice ia n ic) (.slice oa m oc) (.int .u32 (lock : Int)) := by rw [e3]; exact Bx4.new _ _ _ _ _ _
  have s3 : w.heap.size ≤ W3.heap.size := by rw [e3]; simp
  have HKW : Hid (∀ wr v ys, OutB W3 wr v ys → Bx4 wr w.heap.size (.int .i32 ver) (.slice ia n ic) (.slice oa m oc) (.int .u32 (lock : Int)) ∧ Below w.heap.size w wr) := Lib.hid (fun wr v ys hO => ⟨k0.keep (hO.b.block _ k0.lt), hB3.trans (hO.b.mono s3)⟩)
  have c0 := k0.c0
  have HE3 := Lib.hid e3
  have HS3 := Lib.hid s3
  have HL0 := Lib.hid (fun W => reflittle_any (uw ver % 4294967296) (by omega) 4 (by omega) W)
  have HCN := Lib.hid (fun W => refcount_any n (by omega) W)
  have HCM := Lib.hid (fun W => refcount_any m (by omega) W)
  have HTX := Lib.hid (fun (W : World) (s : List Nat) (hs : B8 s) (hl : s.length ≤ 100000000) => reftext_any s hs hl W)
  have HLI := Lib.hid (fun (W : World) (X k : Nat) (hX : X < 18446744073709551616) (hk : k ≤ 8) => reflittle_any X hX k hk W)
  clear hB3 k0 e3 h hn hm s3 hck
  go_enter Try.func23, Try.ntmps23
  go_upto_region 1 with fail
  rw [← HE3.out]
  have hwu : IntKind.u32.wrap ver = ((uw ver % 4294967296 : Nat) : Int) := by rw [IntKind.wrap_u32]; exact u32_uw ver
  have hwv : IntKind.u64.wrap ((uw ver % 4294967296 : Nat) : Int) = ((uw ver % 4294967296 : Nat) : Int) := by rw [IntKind.wrap_u64]; omega
  generalize hUV : uw ver % 4294967296 = UV at *
  have HUV := Lib.hid hUV
  clear hUV
  go_wp2_with fail
  refine (HL0.out _).mono ?_
  rintro ee w4 ⟨v4, rfl, bf4, b4⟩
  have HO4 : Hid (OutB W3 w4 v4 (M.leB (uw ver) 4)) := Lib.hid (by
    refine ⟨b4, ?_⟩
    rw [← leB4_mod, HUV.out, M.leB_len]
    exact bf4)
  obtain ⟨A4, c4, hv4, _, _⟩ := bf4.slice
  subst hv4
  clear hwu hwv bf4 b4 c0
  have HO5 := HO4
  obtain ⟨w5, hw5⟩ : ∃ w5, w5 = w4 := ⟨_, rfl⟩
  obtain ⟨v5, hv5⟩ : ∃ v5, v5 = Value.slice A4 4 c4 := ⟨_, rfl⟩
  rw [← hw5, ← hv5] at HO5
  rw [← hw5, ← hv5]
  clear hw5 hv5 HO4
  obtain ⟨P4, hP4⟩ : ∃ P4, P4 = M.leB (uw ver) 4 := ⟨_, rfl⟩
  rw [← hP4] at HO5 HLB
  have hl4 : P4.length ≤ 6 := by rw [hP4]; simp [M.leB_len]
  have c1 := (HKW.out _ _ _ HO5.out).1.c1
  clear hP4
  go_wp2_with fail
  refine (HCN.out _).mono ?_
  rintro ee wx ⟨vx, rfl, obx⟩
  obtain ⟨Ax, cx, rfl, _, rx⟩ := obx.buf.slice
  have ox := HO5.out.more obx.b
  obtain ⟨vy, wy, hrun, oy, _⟩ := ox.app cx rx (by have := compB_le n; omega)
  have HRUN := Lib.hid hrun
  have HO6 := Lib.hid oy
  have d1 := (HKW.out _ _ _ HO6.out).1.c1
  clear hrun ox oy rx obx c1
  go_upto_region 5 with (show wpList _ _ _ (Oper.mk (some 28) _ _ _ _ _ :: _) _ _; refine arm_append 27 (.tmp 23) (.tmp 27) (v' := ?_) (w' := ?_) ?hr1 ?_; case hr1 => exact HRUN.out)
  clear HRUN
  go_upto_region 6 with fail
  clear d1
  obtain ⟨P6, hP6⟩ : ∃ P6, P6 = P4 ++ M.compB n := ⟨_, rfl⟩
  rw [← hP6] at HO6 HLB
  have HP6 : Hid (P6.length ≤ 20) := Lib.hid (by have := compB_le n; rw [hP6, List.length_append]; omega)
  clear hP6 hl4
  go_loopg [5, 7, 32] n (fun kx s5 s7 s32 wr => ∃ (i : Nat) (ys : List Nat), i ≤ n ∧ s32 = .int .i64 i ∧ n - i ≤ kx ∧ Hid (OutB W3 wr s5 ys) ∧ Hid (ys = P6 ++ fm inB (ins.take i) ∧ ys.length ≤ 20 + i * 11000))
  case atStart => exact ⟨0, P6, Nat.zero_le _, rfl, Nat.le_refl _, HO6, Lib.hid ⟨by simp [fm], by have := HP6.out; omega⟩⟩
  case round =>
    obtain ⟨i, ys, hi, rfl, hk, HO, HY⟩ := hrel
    have HW := Lib.hid (HKW.out _ _ _ HO.out).2
    by_cases hlt : i < n
    · obtain ⟨x, hx⟩ : ∃ x, ins[i]? = some x := ⟨_, List.getElem?_eq_getElem (by have := HN.out; omega)⟩
      have HX1 := Lib.hid (fm_one inB hx)
      have HXS := Lib.hid (HSI.out x (List.mem_of_getElem? hx))
      obtain ⟨ga, offa, hgaa, hga, cxa⟩ := (HT.out.below HW.out).inp i x hx
      simp only at hgaa
      subst hgaa
      have HIAa := Lib.hid ((HT.out.below HW.out).iat x (List.mem_of_getElem? hx))
      have hlena : (x).cells.length = 36 := MIn.len HIAa.out.ok
      have HATa := Lib.hid (show (x).cells[32]? = _ ∧ (x).cells[33]? = _ ∧ (x).cells[34]? = _ ∧ (x).cells[35]? = _ from inC_at (out := (x).p.out) (sc := (x).p.sc) (seq := (x).p.seq) (W := .slice (x).wa (x).p.wit.length (x).wc) HIAa.out.ok.id)
      have HAIa := Lib.hid (show ∀ (j : Nat) (u : Value), (bys (x).p.id)[j]? = some u → (x).cells[j]? = some u from fun j u hu => inC_id j u hu)
      have honea : ∀ u ∈ (x).cells, u.oneCell' = true := inC_one
      obtain ⟨Ca, hCa⟩ : ∃ C, C = (x).cells := ⟨_, rfl⟩
      rw [← hCa] at HATa HAIa honea hlena cxa
      have HCa := Lib.hid hCa
      have HTHa := Lib.hid (cpr_there 65 wr Ca hlena)
      obtain ⟨Wa, ea, kba, ba, sa⟩ := cpr_pack 65 wr Ca hlena
      have KBa := Lib.hid kba
      have HBa := Lib.hid (HW.out.trans (ba.mono HW.out.size))
      have HDa := Lib.hid ba
      have HSa := Lib.hid sa
      have HCXa := Lib.hid cxa
      have HS1a := Lib.hid (show (Try.prog.info? 65).map (·.size) = some Ca.length by rw [hlena]; exact Try.sizeRIn)
      have HS2a := Lib.hid (show (Try.prog.info? 65).map (·.size) = some Ca.toArray.size by rw [List.size_toArray, hlena]; exact Try.sizeRIn)
      have HONEa := Lib.hid (all_oneCell_toArray honea)
      have HEa := Lib.hid ea
      clear honea hlena cxa kba ba sa ea hCa
      go_upto_region 8 with (first
        | (show wpList _ _ _ (Oper.mk (some 35) _ _ _ _ _ :: _) _ _; refine wpList_load_mid rfl 65 (.tmp 34) rfl ga (offa + i * 36) rfl Ca _ HCXa.out Try.underlying65 rfl HS1a.out ?_)
        | (show wpList _ _ _ (Oper.mk (some 7) _ _ _ _ _ :: _) _ _; refine wpList_of_wp rfl fun K hK => wp_alloc_arr 65 rfl ZIN.toArray Try.zeroRIn (hK _ _ ?_))
        | (show wpList _ _ _ (Oper.mk none _ _ _ _ _ :: _) _ _; refine wpList_store_mid rfl 65 (.tmp 7) (.tmp 35) rfl wr.heap.size 0 Ca.toArray rfl rfl HTHa.out HS2a.out HONEa.out ?_))
      rw [← HEa.out]
      have HYL : Hid (ys.length ≤ 20 + 1024 * 11000) := Lib.hid (by have h1 := HY.out.2; have := Nat.mul_le_mul_right 11000 (show i ≤ 1024 by omega); omega)
      have hox : OutX W3 Wa _ ys wr.heap.size Ca := Blk.outX HO.out HDa.out KBa.out
      have hid32 := HIAa.out.ok.id
      have rid : Rd Wa Wa.heap.size (some ⟨wr.heap.size, 0, none⟩) 32 (bys x.p.id) := ⟨by rw [bys_len]; exact hid32, fun _ => ⟨wr.heap.size, 0, rfl, KBa.out.lt, fun j u hu => hox.r j u (HAIa.out j u hu)⟩⟩
      obtain ⟨vy, wy, hrun, oy⟩ := hox.app 32 rid (by have := HYL.out; omega)
      have HRUN := Lib.hid hrun
      have HO8 := Lib.hid oy
      have c32 := oy.at_ 32 _ HATa.out.1
      have HOK := Lib.hid HIAa.out.ok
      have HBS := Lib.hid HIAa.out.ok.sc
      have HQO : Hid (x.p.out < 4294967296 ∧ x.p.seq < 4294967296 ∧ x.p.sc.length ≤ 10000 ∧ x.p.id.length = 32) := Lib.hid ⟨HOK.out.out, HOK.out.seq, HXS.out.sc, hid32⟩
      have HFI : Hid ((((ys ++ x.p.id) ++ M.leB x.p.out 4) ++ txt x.p.sc) ++ M.leB x.p.seq 4 = P6 ++ fm inB (ins.take (i + 1)) ∧ ((((ys ++ x.p.id) ++ M.leB x.p.out 4) ++ txt x.p.sc) ++ M.leB x.p.seq 4).length ≤ 20 + (i + 1) * 11000) := Lib.hid (by
        refine ⟨by rw [HX1.out, HY.out.1]; unfold inB; simp only [List.append_assoc], ?_⟩
        have h1 := HY.out.2
        have h2 := txt_le x.p.sc
        have h3 := HXS.out.sc
        simp only [List.length_append, M.leB_len, hid32]
        omega)
      clear hx hox rid hrun oy hid32
      generalize x.p.id = xid at *
      generalize x.p.out = xo at *
      generalize x.p.sc = xs at *
      generalize x.p.seq = xq at *
      go_upto_region 9 with (show wpList _ _ _ (Oper.mk (some 39) _ _ _ _ _ :: _) _ _; refine arm_append 27 (.tmp 36) (.tmp 38) (v' := ?_) (w' := ?_) ?hr1 ?_; case hr1 => exact HRUN.out)
      clear HRUN
      have hwo : IntKind.u64.wrap (xo : Int) = (xo : Int) := by have := HQO.out.1; rw [IntKind.wrap_u64]; omega
      go_wp2_with fail
      refine (HLI.out _ xo 4 (by have := HQO.out.1; omega) (by omega)).mono ?_
      rintro ee wx ⟨vx, rfl, bfx, bx⟩
      obtain ⟨Ax, cx, rfl, _, rx⟩ := bfx.slice
      have ox := HO8.out.more bx
      obtain ⟨vy, wy, hrun, oy⟩ := ox.app cx rx (by have := HYL.out; have := HQO.out.2.2.2; rw [List.length_append]; omega)
      have HRUN := Lib.hid hrun
      have HO9 := Lib.hid oy
      have c33 := oy.at_ 33 _ HATa.out.2.1
      clear hrun ox oy rx bfx bx c32 hwo
      go_upto_region 10 with (show wpList _ _ _ (Oper.mk (some 45) _ _ _ _ _ :: _) _ _; refine arm_append 27 (.tmp 40) (.tmp 44) (v' := ?_) (w' := ?_) ?hr1 ?_; case hr1 => exact HRUN.out)
      clear HRUN
      go_wp2_with fail
      refine (HTX.out _ xs HBS.out (by have := HQO.out.2.2.1; omega)).mono ?_
      rintro ee wx ⟨vx, rfl, obx⟩
      obtain ⟨Ax, cx, rfl, _, rx⟩ := obx.buf.slice
      have ox := HO9.out.more obx.b
      obtain ⟨vy, wy, hrun, oy⟩ := ox.app cx rx (by have := HYL.out; have := HQO.out.2.2.2; have := txt_le xs; have := HQO.out.2.2.1; simp only [List.length_append, M.leB_len]; omega)
      have HRUN := Lib.hid hrun
      have HO10 := Lib.hid oy
      have c34 := oy.at_ 34 _ HATa.out.2.2.1
      clear hrun ox oy rx obx c33
      go_upto_region 11 with (show wpList _ _ _ (Oper.mk (some 50) _ _ _ _ _ :: _) _ _; refine arm_append 27 (.tmp 46) (.tmp 49) (v' := ?_) (w' := ?_) ?hr1 ?_; case hr1 => exact HRUN.out)
      clear HRUN
      have hwq : IntKind.u64.wrap (xq : Int) = (xq : Int) := by have := HQO.out.2.1; rw [IntKind.wrap_u64]; omega
      go_wp2_with fail
      refine (HLI.out _ xq 4 (by have := HQO.out.2.1; omega) (by omega)).mono ?_
      rintro ee wx ⟨vx, rfl, bfx, bx⟩
      obtain ⟨Ax, cx, rfl, _, rx⟩ := bfx.slice
      have ox := HO10.out.more bx
      obtain ⟨vy, wy, hrun, oy⟩ := ox.app cx rx (by have := HYL.out; have := HQO.out.2.2.2; have := txt_le xs; have := HQO.out.2.2.1; simp only [List.length_append, M.leB_len]; omega)
      have HRUN := Lib.hid hrun
      have HO11 := Lib.hid oy
      clear hrun ox oy rx bfx bx c34 hwq
      go_upto_region 12 with (show wpList _ _ _ (Oper.mk (some 56) _ _ _ _ _ :: _) _ _; refine arm_append 27 (.tmp 51) (.tmp 55) (v' := ?_) (w' := ?_) ?hr1 ?_; case hr1 => exact HRUN.out)
      clear HRUN
      go_wp2
      go_roundg (n - (i + 1))
      case measure => omega
      case rel => exact ⟨i + 1, _, by omega, by go_num, Nat.le_refl _, Lib.hid HO11.out.o, HFI⟩
    · have HY7 : Hid (ys = P6 ++ fm inB ins) := Lib.hid (by rw [HY.out.1, List.take_of_length_le (by have := HN.out; omega)])
      have hly : ys.length ≤ 20 + 1024 * 11000 := by have h1 := HY.out.2; have := Nat.mul_le_mul_right 11000 (show i ≤ 1024 by omega); omega
      have HLY := Lib.hid hly
      have c2 := (HKW.out _ _ _ HO.out).1.c2
      clear hly
      go_wp2_with fail
      refine (HCM.out _).mono ?_
      rintro ee wx ⟨vx, rfl, obx⟩
      obtain ⟨Ax, cx, rfl, _, rx⟩ := obx.buf.slice
      have ox := HO.out.more obx.b
      obtain ⟨vy, wy, hrun, oy, _⟩ := ox.app cx rx (by have := compB_le m; have := HLY.out; omega)
      have HRUN := Lib.hid hrun
      have HO13 := Lib.hid oy
      have d2 := (HKW.out _ _ _ HO13.out).1.c2
      clear hrun ox oy rx obx c2
      go_upto_region 14 with (show wpList _ _ _ (Oper.mk (some 63) _ _ _ _ _ :: _) _ _; refine arm_append 27 (.tmp 58) (.tmp 62) (v' := ?_) (w' := ?_) ?hr1 ?_; case hr1 => exact HRUN.out)
      clear HRUN
      go_upto_region 15 with fail
      clear d2
      obtain ⟨P8, hP8⟩ : ∃ P8, P8 = ys ++ M.compB m := ⟨_, rfl⟩
      rw [← hP8] at HO13
      have HP8 : Hid (P8.length ≤ 11264040) := Lib.hid (by have := compB_le m; have := HLY.out; rw [hP8, List.length_append]; omega)
      have HPE : Hid (P8 = (P6 ++ fm inB ins) ++ M.compB m) := Lib.hid (by rw [hP8, HY7.out])
      clear hP8 HO HY HW
      go_loopg [5, 9, 67] m (fun kx s5 s9 s67 wr => ∃ (i : Nat) (zs : List Nat), i ≤ m ∧ s67 = .int .i64 i ∧ m - i ≤ kx ∧ Hid (OutB W3 wr s5 zs) ∧ Hid (zs = P8 ++ (outs.take i).flatMap outB ∧ zs.length ≤ 11264040 + i * 11000))
      case atStart => exact ⟨0, P8, Nat.zero_le _, rfl, Nat.le_refl _, HO13, Lib.hid ⟨by simp, by have := HP8.out; omega⟩⟩
      case round =>
        clear HO13
        obtain ⟨j, zs, hj, rfl, hkj, HZ, HZE⟩ := hrel
        have HWZ := Lib.hid (HKW.out _ _ _ HZ.out).2
        by_cases hlj : j < m
        · obtain ⟨p, hp⟩ : ∃ p, outs[j]? = some p := ⟨_, List.getElem?_eq_getElem (by have := HM.out; omega)⟩
          obtain ⟨ga, oa2, rfl, hga, ca, cb⟩ := (HT.out.below HWZ.out).outp j p hp
          have HOK := Lib.hid (HT.out.ook p (List.mem_of_getElem? hp))
          have HX1 := Lib.hid (fo_one outB hp)
          have HXS := Lib.hid (HSO.out p (List.mem_of_getElem? hp))
          obtain ⟨W9, e9⟩ : ∃ W9, W9 = wr.alloc (.cells #[.int .i64 p.coins, .string (strB p.sc)] 66) := ⟨_, rfl⟩
          have b9 : Below wr.heap.size wr W9 := by rw [e9]; exact (Below.refl _ _).alloc (Nat.le_refl _) _
          have x9 : Bx2 W9 wr.heap.size (.int .i64 p.coins) (.string (strB p.sc)) := by rw [e9]; exact Bx2.new _ _ _ _
          have HO9 := Lib.hid (Bx2.outX HZ.out b9 x9)
          have HE9 := Lib.hid e9
          have HZL : Hid (zs.length ≤ 11264040 + 1024 * 11000) := Lib.hid (by have h1 := HZE.out.2; have := Nat.mul_le_mul_right 11000 (show j ≤ 1024 by omega); omega)
          have HFI : Hid (((zs ++ M.leB (uw p.coins) 8) ++ txt p.sc) = P8 ++ (outs.take (j + 1)).flatMap outB ∧ ((zs ++ M.leB (uw p.coins) 8) ++ txt p.sc).length ≤ 11264040 + (j + 1) * 11000) := Lib.hid (by
            refine ⟨by rw [HX1.out, HZE.out.1]; unfold outB; simp only [List.append_assoc], ?_⟩
            have h1 := HZE.out.2
            have h2 := txt_le p.sc
            have h3 := HXS.out.sc
            simp only [List.length_append, M.leB_len]
            omega)
          have d0 := x9.c0
          have hwc : IntKind.u64.wrap p.coins = (uw p.coins : Int) := by rw [IntKind.wrap_u64, uw_cast]
          have HQS := Lib.hid HXS.out.sc
          have HBS := Lib.hid HOK.out.sc
          clear hp x9 e9 b9
          generalize p.sc = ps at *
          generalize hpc : p.coins = pc at *
          have HUC := Lib.hid (uw_lt pc)
          generalize uw pc = UC at *
          clear hpc
          go_upto_region 17 with fail
          rw [← HE9.out]
          clear ca cb
          go_wp2_with fail
          refine (HLI.out _ UC 8 HUC.out (by omega)).mono ?_
          rintro ee wx ⟨vx, rfl, bfx, bx⟩
          obtain ⟨Ax, cx, rfl, _, rx⟩ := bfx.slice
          have ox := HO9.out.more bx
          obtain ⟨vy, wy, hrun, oy⟩ := ox.app cx rx (by have := HZL.out; omega)
          have HRUN := Lib.hid hrun
          have HO17 := Lib.hid oy
          have d1 := oy.at_ 1 _ rfl
          clear hrun ox oy rx bfx bx d0 hwc
          go_upto_region 18 with (show wpList _ _ _ (Oper.mk (some 76) _ _ _ _ _ :: _) _ _; refine arm_append 27 (.tmp 71) (.tmp 75) (v' := ?_) (w' := ?_) ?hr1 ?_; case hr1 => exact HRUN.out)
          clear HRUN
          go_wp2_with fail
          refine (HTX.out _ ps HBS.out (by have := HQS.out; omega)).mono ?_
          rintro ee wx ⟨vx, rfl, obx⟩
          obtain ⟨Ax, cx, rfl, _, rx⟩ := obx.buf.slice
          have ox := HO17.out.more obx.b
          obtain ⟨vy, wy, hrun, oy⟩ := ox.app cx rx (by have := HZL.out; have := txt_le ps; have := HQS.out; simp only [List.length_append, M.leB_len]; omega)
          have HRUN := Lib.hid hrun
          have HO18 := Lib.hid oy
          clear hrun ox oy rx obx d1
          go_upto_region 19 with (show wpList _ _ _ (Oper.mk (some 81) _ _ _ _ _ :: _) _ _; refine arm_append 27 (.tmp 77) (.tmp 80) (v' := ?_) (w' := ?_) ?hr1 ?_; case hr1 => exact HRUN.out)
          clear HRUN
          go_wp2
          go_roundg (m - (j + 1))
          case measure => omega
          case rel => exact ⟨j + 1, _, by omega, by go_num, Nat.le_refl _, Lib.hid HO18.out.o, HFI⟩
        · have HZ9 : Hid (zs = P8 ++ outs.flatMap outB ∧ zs.length ≤ 11264040 + 1024 * 11000) := Lib.hid ⟨by rw [HZE.out.1, List.take_of_length_le (by have := HM.out; omega)], by have h1 := HZE.out.2; have := Nat.mul_le_mul_right 11000 (show j ≤ 1024 by omega); omega⟩
          have c3 := (HKW.out _ _ _ HZ.out).1.c3
          have hwl : IntKind.u64.wrap (lock : Int) = (lock : Int) := by have : lock < 4294967296 := HLK.out; rw [IntKind.wrap_u64]; omega
          have HQL : Hid (lock < 4294967296) := HLK
          go_wp2_with fail
          refine (HLI.out _ lock 4 (by have := HQL.out; omega) (by omega)).mono ?_
          rintro ee wx ⟨vx, rfl, bfx, bx⟩
          obtain ⟨Ax, cx, rfl, _, rx⟩ := bfx.slice
          have ox := HZ.out.more bx
          obtain ⟨vy, wy, hrun, oy, _⟩ := ox.app cx rx (by have := HZ9.out.2; omega)
          have HRUN := Lib.hid hrun
          have HO31 := Lib.hid oy
          clear hrun ox oy rx bfx bx c3 hwl
          go_wp2_with (show wpList _ _ _ (Oper.mk (some 115) _ _ _ _ _ :: _) _ _; refine arm_append 27 (.tmp 110) (.tmp 114) (v' := ?_) (w' := ?_) ?hr1 ?_; case hr1 => exact HRUN.out)
          clear HRUN
          go_ret
          have HE : Hid (LB = zs ++ M.leB lock 4) := Lib.hid (by rw [HLB.out, HZ9.out.1, HPE.out])
          refine ⟨_, rfl, ?_, (HKW.out _ _ _ HO31.out).2⟩
          rw [HE.out]
          exact HO31.out.buf.base_le HS3.out

set_option maxHeartbeats 8000000 in
set_option maxRecDepth 100000 in
theorem reflayT_any (w : World) (t : MTx) (h : TxAt w w.heap.size t) (hck : chk t.p = 0) :
    Calls Try.prog 23 #[t.val, .bool true] w fun e w' => ∃ v', e = .returned v' ∧ Buf w' w.heap.size v' (layB t.p true).length (bys (layB t.p true)) ∧ Below w.heap.size w w' := by
  obtain ⟨i0, hi5, hz0, hz1, hz2⟩ := info_parts Try.info5
  have HSM := Lib.hid (small_of hck h.pok)
  obtain ⟨ver, ins, ia, ic, outs, oa, oc, lock⟩ := t
  have hil : (ins.length : Int) ≤ 1024 := by have := HSM.out.i1; simp [MTx.p] at this; omega
  have hol : (outs.length : Int) ≤ 1024 := by have := HSM.out.o1; simp [MTx.p] at this; omega
  have HSI : Hid (∀ x ∈ ins, x.p.small) := Lib.hid (fun x hx => HSM.out.ins x.p (by simp only [MTx.p, List.mem_map]; exact ⟨x, hx, rfl⟩))
  have HSO : Hid (∀ q ∈ outs, q.small) := Lib.hid (fun x hx => HSM.out.outs x hx)
  have HLK := Lib.hid h.lock
  have HT := Lib.hid h
  have HLB := Lib.hid (layB_is ver ins ia ic outs oa oc lock true)
  simp only [if_true] at HLB
  generalize layB (MTx.p ⟨ver, ins, ia, ic, outs, oa, oc, lock⟩) true = LB at *
  show Calls Try.prog 23 #[.agg #[.int .i32 ver, .slice ia ins.length ic, .slice oa outs.length oc, .int .u32 (lock : Int)], .bool true] w _
  obtain ⟨n, hn⟩ : ∃ n, n = ins.length := ⟨_, rfl⟩
  obtain ⟨m, hm⟩ : ∃ m, m = outs.length := ⟨_, rfl⟩
  rw [← hn] at hil HLB ⊢
  rw [← hm] at hol HLB ⊢
  have HN := Lib.hid hn
  have HM := Lib.hid hm
  obtain ⟨W3, e3⟩ : ∃ W3, W3 = w.alloc (.cells #[.int .i32 ver, .slice ia n ic, .slice oa m oc, .int .u32 (lock : Int)] 38) := ⟨_, rfl⟩
  have hB3 : Below w.heap.size w W3 := by rw [e3]; exact (Below.refl _ _).alloc (Nat.le_refl _) _
  have k0 : Bx4 W3 w.heap.size (.int .i32 ver) (.slice ia n ic) (.slice oa m oc) (.int .u32 (lock : Int)) := by rw [e3]; exact Bx4.new _ _ _ _ _ _
  have s3 : w.heap.size ≤ W3.heap.size := by rw [e3]; simp
  have HKW : Hid (∀ wr v ys, OutB W3 wr v ys → Bx4 wr w.heap.size (.int .i32 ver) (.slice ia n ic) (.slice oa m oc) (.int .u32 (lock : Int)) ∧ Below w.heap.size w wr) := Lib.hid (fun wr v ys hO => ⟨k0.keep (hO.b.block _ k0.lt), hB3.trans (hO.b.mono s3)⟩)
  have c0 := k0.c0
  have HE3 := Lib.hid e3
  have HS3 := Lib.hid s3
  have HL0 := Lib.hid (fun W => reflittle_any (uw ver % 4294967296) (by omega) 4 (by omega) W)
  have HCN := Lib.hid (fun W => refcount_any n (by omega) W)
  have HCM := Lib.hid (fun W => refcount_any m (by omega) W)
  have HTX := Lib.hid (fun (W : World) (s : List Nat) (hs : B8 s) (hl : s.length ≤ 100000000) => reftext_any s hs hl W)
  have HLI := Lib.hid (fun (W : World) (X k : Nat) (hX : X < 18446744073709551616) (hk : k ≤ 8) => reflittle_any X hX k hk W)
  clear hB3 k0 e3 h hn hm s3 hck
  go_enter Try.func23, Try.ntmps23
  go_upto_region 1 with fail
  rw [← HE3.out]
  have hwu : IntKind.u32.wrap ver = ((uw ver % 4294967296 : Nat) : Int) := by rw [IntKind.wrap_u32]; exact u32_uw ver
  have hwv : IntKind.u64.wrap ((uw ver % 4294967296 : Nat) : Int) = ((uw ver % 4294967296 : Nat) : Int) := by rw [IntKind.wrap_u64]; omega
  generalize hUV : uw ver % 4294967296 = UV at *
  have HUV := Lib.hid hUV
  clear hUV
  go_wp2_with fail
  refine (HL0.out _).mono ?_
  rintro ee w4 ⟨v4, rfl, bf4, b4⟩
  have HO4 : Hid (OutB W3 w4 v4 (M.leB (uw ver) 4)) := Lib.hid (by
    refine ⟨b4, ?_⟩
    rw [← leB4_mod, HUV.out, M.leB_len]
    exact bf4)
  obtain ⟨A4, c4, hv4, _, _⟩ := bf4.slice
  subst hv4
  clear hwu hwv bf4 b4 c0
  have o5 := HO4.out.more (show Below w4.heap.size w4 (w4.alloc (.cells #[.int .u8 0, .int .u8 1] 5)) from (Below.refl _ _).alloc (Nat.le_refl _) _)
  have r5 : Rd (w4.alloc (.cells #[.int .u8 0, .int .u8 1] 5)) (w4.heap.size + 1) (some ⟨w4.heap.size, 0, none⟩) 2 (bys [0, 1]) := Rd.lit w4 #[.int .u8 0, .int .u8 1] 5 2 rfl
  obtain ⟨v5, w5, hrun, o6, _⟩ := o5.app 2 r5 (by rw [M.leB_len]; omega)
  have HRUN := Lib.hid hrun
  have HO5 := Lib.hid o6
  clear hrun o5 o6 r5
  go_upto_region 4 with (show wpList _ _ _ (Oper.mk (some 22) _ _ _ _ _ :: _) _ _; refine arm_append 27 (.tmp 20) (.tmp 21) (v' := ?_) (w' := ?_) ?hr1 ?_; case hr1 => exact HRUN.out)
  clear HRUN
  obtain ⟨P4, hP4⟩ : ∃ P4, P4 = M.leB (uw ver) 4 ++ [0, 1] := ⟨_, rfl⟩
  rw [← hP4] at HO5 HLB
  have hl4 : P4.length ≤ 6 := by rw [hP4]; simp [M.leB_len]
  have c1 := (HKW.out _ _ _ HO5.out).1.c1
  clear hP4
  go_wp2_with fail
  refine (HCN.out _).mono ?_
  rintro ee wx ⟨vx, rfl, obx⟩
  obtain ⟨Ax, cx, rfl, _, rx⟩ := obx.buf.slice
  have ox := HO5.out.more obx.b
  obtain ⟨vy, wy, hrun, oy, _⟩ := ox.app cx rx (by have := compB_le n; omega)
  have HRUN := Lib.hid hrun
  have HO6 := Lib.hid oy
  have d1 := (HKW.out _ _ _ HO6.out).1.c1
  clear hrun ox oy rx obx c1
  go_upto_region 5 with (show wpList _ _ _ (Oper.mk (some 28) _ _ _ _ _ :: _) _ _; refine arm_append 27 (.tmp 23) (.tmp 27) (v' := ?_) (w' := ?_) ?hr1 ?_; case hr1 => exact HRUN.out)
  clear HRUN
  go_upto_region 6 with fail
  clear d1
  obtain ⟨P6, hP6⟩ : ∃ P6, P6 = P4 ++ M.compB n := ⟨_, rfl⟩
  rw [← hP6] at HO6 HLB
  have HP6 : Hid (P6.length ≤ 20) := Lib.hid (by have := compB_le n; rw [hP6, List.length_append]; omega)
  clear hP6 hl4
  go_loopg [5, 7, 32] n (fun kx s5 s7 s32 wr => ∃ (i : Nat) (ys : List Nat), i ≤ n ∧ s32 = .int .i64 i ∧ n - i ≤ kx ∧ Hid (OutB W3 wr s5 ys) ∧ Hid (ys = P6 ++ fm inB (ins.take i) ∧ ys.length ≤ 20 + i * 11000))
  case atStart => exact ⟨0, P6, Nat.zero_le _, rfl, Nat.le_refl _, HO6, Lib.hid ⟨by simp [fm], by have := HP6.out; omega⟩⟩
  case round =>
    obtain ⟨i, ys, hi, rfl, hk, HO, HY⟩ := hrel
    have HW := Lib.hid (HKW.out _ _ _ HO.out).2
    by_cases hlt : i < n
    · obtain ⟨x, hx⟩ : ∃ x, ins[i]? = some x := ⟨_, List.getElem?_eq_getElem (by have := HN.out; omega)⟩
      have HX1 := Lib.hid (fm_one inB hx)
      have HXS := Lib.hid (HSI.out x (List.mem_of_getElem? hx))
      obtain ⟨ga, offa, hgaa, hga, cxa⟩ := (HT.out.below HW.out).inp i x hx
      simp only at hgaa
      subst hgaa
      have HIAa := Lib.hid ((HT.out.below HW.out).iat x (List.mem_of_getElem? hx))
      have hlena : (x).cells.length = 36 := MIn.len HIAa.out.ok
      have HATa := Lib.hid (show (x).cells[32]? = _ ∧ (x).cells[33]? = _ ∧ (x).cells[34]? = _ ∧ (x).cells[35]? = _ from inC_at (out := (x).p.out) (sc := (x).p.sc) (seq := (x).p.seq) (W := .slice (x).wa (x).p.wit.length (x).wc) HIAa.out.ok.id)
      have HAIa := Lib.hid (show ∀ (j : Nat) (u : Value), (bys (x).p.id)[j]? = some u → (x).cells[j]? = some u from fun j u hu => inC_id j u hu)
      have honea : ∀ u ∈ (x).cells, u.oneCell' = true := inC_one
      obtain ⟨Ca, hCa⟩ : ∃ C, C = (x).cells := ⟨_, rfl⟩
      rw [← hCa] at HATa HAIa honea hlena cxa
      have HCa := Lib.hid hCa
      have HTHa := Lib.hid (cpr_there 65 wr Ca hlena)
      obtain ⟨Wa, ea, kba, ba, sa⟩ := cpr_pack 65 wr Ca hlena
      have KBa := Lib.hid kba
      have HBa := Lib.hid (HW.out.trans (ba.mono HW.out.size))
      have HDa := Lib.hid ba
      have HSa := Lib.hid sa
      have HCXa := Lib.hid cxa
      have HS1a := Lib.hid (show (Try.prog.info? 65).map (·.size) = some Ca.length by rw [hlena]; exact Try.sizeRIn)
      have HS2a := Lib.hid (show (Try.prog.info? 65).map (·.size) = some Ca.toArray.size by rw [List.size_toArray, hlena]; exact Try.sizeRIn)
      have HONEa := Lib.hid (all_oneCell_toArray honea)
      have HEa := Lib.hid ea
      clear honea hlena cxa kba ba sa ea hCa
      go_upto_region 8 with (first
        | (show wpList _ _ _ (Oper.mk (some 35) _ _ _ _ _ :: _) _ _; refine wpList_load_mid rfl 65 (.tmp 34) rfl ga (offa + i * 36) rfl Ca _ HCXa.out Try.underlying65 rfl HS1a.out ?_)
        | (show wpList _ _ _ (Oper.mk (some 7) _ _ _ _ _ :: _) _ _; refine wpList_of_wp rfl fun K hK => wp_alloc_arr 65 rfl ZIN.toArray Try.zeroRIn (hK _ _ ?_))
        | (show wpList _ _ _ (Oper.mk none _ _ _ _ _ :: _) _ _; refine wpList_store_mid rfl 65 (.tmp 7) (.tmp 35) rfl wr.heap.size 0 Ca.toArray rfl rfl HTHa.out HS2a.out HONEa.out ?_))
      rw [← HEa.out]
      have HYL : Hid (ys.length ≤ 20 + 1024 * 11000) := Lib.hid (by have h1 := HY.out.2; have := Nat.mul_le_mul_right 11000 (show i ≤ 1024 by omega); omega)
      have hox : OutX W3 Wa _ ys wr.heap.size Ca := Blk.outX HO.out HDa.out KBa.out
      have hid32 := HIAa.out.ok.id
      have rid : Rd Wa Wa.heap.size (some ⟨wr.heap.size, 0, none⟩) 32 (bys x.p.id) := ⟨by rw [bys_len]; exact hid32, fun _ => ⟨wr.heap.size, 0, rfl, KBa.out.lt, fun j u hu => hox.r j u (HAIa.out j u hu)⟩⟩
      obtain ⟨vy, wy, hrun, oy⟩ := hox.app 32 rid (by have := HYL.out; omega)
      have HRUN := Lib.hid hrun
      have HO8 := Lib.hid oy
      have c32 := oy.at_ 32 _ HATa.out.1
      have HOK := Lib.hid HIAa.out.ok
      have HBS := Lib.hid HIAa.out.ok.sc
      have HQO : Hid (x.p.out < 4294967296 ∧ x.p.seq < 4294967296 ∧ x.p.sc.length ≤ 10000 ∧ x.p.id.length = 32) := Lib.hid ⟨HOK.out.out, HOK.out.seq, HXS.out.sc, hid32⟩
      have HFI : Hid ((((ys ++ x.p.id) ++ M.leB x.p.out 4) ++ txt x.p.sc) ++ M.leB x.p.seq 4 = P6 ++ fm inB (ins.take (i + 1)) ∧ ((((ys ++ x.p.id) ++ M.leB x.p.out 4) ++ txt x.p.sc) ++ M.leB x.p.seq 4).length ≤ 20 + (i + 1) * 11000) := Lib.hid (by
        refine ⟨by rw [HX1.out, HY.out.1]; unfold inB; simp only [List.append_assoc], ?_⟩
        have h1 := HY.out.2
        have h2 := txt_le x.p.sc
        have h3 := HXS.out.sc
        simp only [List.length_append, M.leB_len, hid32]
        omega)
      clear hx hox rid hrun oy hid32
      generalize x.p.id = xid at *
      generalize x.p.out = xo at *
      generalize x.p.sc = xs at *
      generalize x.p.seq = xq at *
      go_upto_region 9 with (show wpList _ _ _ (Oper.mk (some 39) _ _ _ _ _ :: _) _ _; refine arm_append 27 (.tmp 36) (.tmp 38) (v' := ?_) (w' := ?_) ?hr1 ?_; case hr1 => exact HRUN.out)
      clear HRUN
      have hwo : IntKind.u64.wrap (xo : Int) = (xo : Int) := by have := HQO.out.1; rw [IntKind.wrap_u64]; omega
      go_wp2_with fail
      refine (HLI.out _ xo 4 (by have := HQO.out.1; omega) (by omega)).mono ?_
      rintro ee wx ⟨vx, rfl, bfx, bx⟩
      obtain ⟨Ax, cx, rfl, _, rx⟩ := bfx.slice
      have ox := HO8.out.more bx
      obtain ⟨vy, wy, hrun, oy⟩ := ox.app cx rx (by have := HYL.out; have := HQO.out.2.2.2; rw [List.length_append]; omega)
      have HRUN := Lib.hid hrun
      have HO9 := Lib.hid oy
      have c33 := oy.at_ 33 _ HATa.out.2.1
      clear hrun ox oy rx bfx bx c32 hwo
      go_upto_region 10 with (show wpList _ _ _ (Oper.mk (some 45) _ _ _ _ _ :: _) _ _; refine arm_append 27 (.tmp 40) (.tmp 44) (v' := ?_) (w' := ?_) ?hr1 ?_; case hr1 => exact HRUN.out)
      clear HRUN
      go_wp2_with fail
      refine (HTX.out _ xs HBS.out (by have := HQO.out.2.2.1; omega)).mono ?_
      rintro ee wx ⟨vx, rfl, obx⟩
      obtain ⟨Ax, cx, rfl, _, rx⟩ := obx.buf.slice
      have ox := HO9.out.more obx.b
      obtain ⟨vy, wy, hrun, oy⟩ := ox.app cx rx (by have := HYL.out; have := HQO.out.2.2.2; have := txt_le xs; have := HQO.out.2.2.1; simp only [List.length_append, M.leB_len]; omega)
      have HRUN := Lib.hid hrun
      have HO10 := Lib.hid oy
      have c34 := oy.at_ 34 _ HATa.out.2.2.1
      clear hrun ox oy rx obx c33
      go_upto_region 11 with (show wpList _ _ _ (Oper.mk (some 50) _ _ _ _ _ :: _) _ _; refine arm_append 27 (.tmp 46) (.tmp 49) (v' := ?_) (w' := ?_) ?hr1 ?_; case hr1 => exact HRUN.out)
      clear HRUN
      have hwq : IntKind.u64.wrap (xq : Int) = (xq : Int) := by have := HQO.out.2.1; rw [IntKind.wrap_u64]; omega
      go_wp2_with fail
      refine (HLI.out _ xq 4 (by have := HQO.out.2.1; omega) (by omega)).mono ?_
      rintro ee wx ⟨vx, rfl, bfx, bx⟩
      obtain ⟨Ax, cx, rfl, _, rx⟩ := bfx.slice
      have ox := HO10.out.more bx
      obtain ⟨vy, wy, hrun, oy⟩ := ox.app cx rx (by have := HYL.out; have := HQO.out.2.2.2; have := txt_le xs; have := HQO.out.2.2.1; simp only [List.length_append, M.leB_len]; omega)
      have HRUN := Lib.hid hrun
      have HO11 := Lib.hid oy
      clear hrun ox oy rx bfx bx c34 hwq
      go_upto_region 12 with (show wpList _ _ _ (Oper.mk (some 56) _ _ _ _ _ :: _) _ _; refine arm_append 27 (.tmp 51) (.tmp 55) (v' := ?_) (w' := ?_) ?hr1 ?_; case hr1 => exact HRUN.out)
      clear HRUN
      go_wp2
      go_roundg (n - (i + 1))
      case measure => omega
      case rel => exact ⟨i + 1, _, by omega, by go_num, Nat.le_refl _, Lib.hid HO11.out.o, HFI⟩
    · have HY7 : Hid (ys = P6 ++ fm inB ins) := Lib.hid (by rw [HY.out.1, List.take_of_length_le (by have := HN.out; omega)])
      have hly : ys.length ≤ 20 + 1024 * 11000 := by have h1 := HY.out.2; have := Nat.mul_le_mul_right 11000 (show i ≤ 1024 by omega); omega
      have HLY := Lib.hid hly
      have c2 := (HKW.out _ _ _ HO.out).1.c2
      clear hly
      go_wp2_with fail
      refine (HCM.out _).mono ?_
      rintro ee wx ⟨vx, rfl, obx⟩
      obtain ⟨Ax, cx, rfl, _, rx⟩ := obx.buf.slice
      have ox := HO.out.more obx.b
      obtain ⟨vy, wy, hrun, oy, _⟩ := ox.app cx rx (by have := compB_le m; have := HLY.out; omega)
      have HRUN := Lib.hid hrun
      have HO13 := Lib.hid oy
      have d2 := (HKW.out _ _ _ HO13.out).1.c2
      clear hrun ox oy rx obx c2
      go_upto_region 14 with (show wpList _ _ _ (Oper.mk (some 63) _ _ _ _ _ :: _) _ _; refine arm_append 27 (.tmp 58) (.tmp 62) (v' := ?_) (w' := ?_) ?hr1 ?_; case hr1 => exact HRUN.out)
      clear HRUN
      go_upto_region 15 with fail
      clear d2
      obtain ⟨P8, hP8⟩ : ∃ P8, P8 = ys ++ M.compB m := ⟨_, rfl⟩
      rw [← hP8] at HO13
      have HP8 : Hid (P8.length ≤ 11264040) := Lib.hid (by have := compB_le m; have := HLY.out; rw [hP8, List.length_append]; omega)
      have HPE : Hid (P8 = (P6 ++ fm inB ins) ++ M.compB m) := Lib.hid (by rw [hP8, HY7.out])
      clear hP8 HO HY HW
      go_loopg [5, 9, 67] m (fun kx s5 s9 s67 wr => ∃ (i : Nat) (zs : List Nat), i ≤ m ∧ s67 = .int .i64 i ∧ m - i ≤ kx ∧ Hid (OutB W3 wr s5 zs) ∧ Hid (zs = P8 ++ (outs.take i).flatMap outB ∧ zs.length ≤ 11264040 + i * 11000))
      case atStart => exact ⟨0, P8, Nat.zero_le _, rfl, Nat.le_refl _, HO13, Lib.hid ⟨by simp, by have := HP8.out; omega⟩⟩
      case round =>
        clear HO13
        obtain ⟨j, zs, hj, rfl, hkj, HZ, HZE⟩ := hrel
        have HWZ := Lib.hid (HKW.out _ _ _ HZ.out).2
        by_cases hlj : j < m
        · obtain ⟨p, hp⟩ : ∃ p, outs[j]? = some p := ⟨_, List.getElem?_eq_getElem (by have := HM.out; omega)⟩
          obtain ⟨ga, oa2, rfl, hga, ca, cb⟩ := (HT.out.below HWZ.out).outp j p hp
          have HOK := Lib.hid (HT.out.ook p (List.mem_of_getElem? hp))
          have HX1 := Lib.hid (fo_one outB hp)
          have HXS := Lib.hid (HSO.out p (List.mem_of_getElem? hp))
          obtain ⟨W9, e9⟩ : ∃ W9, W9 = wr.alloc (.cells #[.int .i64 p.coins, .string (strB p.sc)] 66) := ⟨_, rfl⟩
          have b9 : Below wr.heap.size wr W9 := by rw [e9]; exact (Below.refl _ _).alloc (Nat.le_refl _) _
          have x9 : Bx2 W9 wr.heap.size (.int .i64 p.coins) (.string (strB p.sc)) := by rw [e9]; exact Bx2.new _ _ _ _
          have HO9 := Lib.hid (Bx2.outX HZ.out b9 x9)
          have HE9 := Lib.hid e9
          have HZL : Hid (zs.length ≤ 11264040 + 1024 * 11000) := Lib.hid (by have h1 := HZE.out.2; have := Nat.mul_le_mul_right 11000 (show j ≤ 1024 by omega); omega)
          have HFI : Hid (((zs ++ M.leB (uw p.coins) 8) ++ txt p.sc) = P8 ++ (outs.take (j + 1)).flatMap outB ∧ ((zs ++ M.leB (uw p.coins) 8) ++ txt p.sc).length ≤ 11264040 + (j + 1) * 11000) := Lib.hid (by
            refine ⟨by rw [HX1.out, HZE.out.1]; unfold outB; simp only [List.append_assoc], ?_⟩
            have h1 := HZE.out.2
            have h2 := txt_le p.sc
            have h3 := HXS.out.sc
            simp only [List.length_append, M.leB_len]
            omega)
          have d0 := x9.c0
          have hwc : IntKind.u64.wrap p.coins = (uw p.coins : Int) := by rw [IntKind.wrap_u64, uw_cast]
          have HQS := Lib.hid HXS.out.sc
          have HBS := Lib.hid HOK.out.sc
          clear hp x9 e9 b9
          generalize p.sc = ps at *
          generalize hpc : p.coins = pc at *
          have HUC := Lib.hid (uw_lt pc)
          generalize uw pc = UC at *
          clear hpc
          go_upto_region 17 with fail
          rw [← HE9.out]
          clear ca cb
          go_wp2_with fail
          refine (HLI.out _ UC 8 HUC.out (by omega)).mono ?_
          rintro ee wx ⟨vx, rfl, bfx, bx⟩
          obtain ⟨Ax, cx, rfl, _, rx⟩ := bfx.slice
          have ox := HO9.out.more bx
          obtain ⟨vy, wy, hrun, oy⟩ := ox.app cx rx (by have := HZL.out; omega)
          have HRUN := Lib.hid hrun
          have HO17 := Lib.hid oy
          have d1 := oy.at_ 1 _ rfl
          clear hrun ox oy rx bfx bx d0 hwc
          go_upto_region 18 with (show wpList _ _ _ (Oper.mk (some 76) _ _ _ _ _ :: _) _ _; refine arm_append 27 (.tmp 71) (.tmp 75) (v' := ?_) (w' := ?_) ?hr1 ?_; case hr1 => exact HRUN.out)
          clear HRUN
          go_wp2_with fail
          refine (HTX.out _ ps HBS.out (by have := HQS.out; omega)).mono ?_
          rintro ee wx ⟨vx, rfl, obx⟩
          obtain ⟨Ax, cx, rfl, _, rx⟩ := obx.buf.slice
          have ox := HO17.out.more obx.b
          obtain ⟨vy, wy, hrun, oy⟩ := ox.app cx rx (by have := HZL.out; have := txt_le ps; have := HQS.out; simp only [List.length_append, M.leB_len]; omega)
          have HRUN := Lib.hid hrun
          have HO18 := Lib.hid oy
          clear hrun ox oy rx obx d1
          go_upto_region 19 with (show wpList _ _ _ (Oper.mk (some 81) _ _ _ _ _ :: _) _ _; refine arm_append 27 (.tmp 77) (.tmp 80) (v' := ?_) (w' := ?_) ?hr1 ?_; case hr1 => exact HRUN.out)
          clear HRUN
          go_wp2
          go_roundg (m - (j + 1))
          case measure => omega
          case rel => exact ⟨j + 1, _, by omega, by go_num, Nat.le_refl _, Lib.hid HO18.out.o, HFI⟩
        · have HZ9 : Hid (zs = P8 ++ outs.flatMap outB ∧ zs.length ≤ 11264040 + 1024 * 11000) := Lib.hid ⟨by rw [HZE.out.1, List.take_of_length_le (by have := HM.out; omega)], by have h1 := HZE.out.2; have := Nat.mul_le_mul_right 11000 (show j ≤ 1024 by omega); omega⟩
          have c1 := (HKW.out _ _ _ HZ.out).1.c1
          go_upto_region 22 with fail
          clear c1
          go_loopg [5, 11, 13, 87] n (fun kx s5 s11 s13 s87 wr => ∃ (i : Nat) (us : List Nat), i ≤ n ∧ s87 = .int .i64 i ∧ n - i ≤ kx ∧ Hid (OutB W3 wr s5 us) ∧ Hid (us = zs ++ fm witB (ins.take i) ∧ us.length ≤ 22528040 + i * 1100000))
          case atStart => exact ⟨0, zs, Nat.zero_le _, rfl, Nat.le_refl _, HZ, Lib.hid ⟨by simp [fm], by have := HZ9.out.2; omega⟩⟩
          case round =>
            clear HZ HZE HWZ
            obtain ⟨i, us, hi, rfl, hk, HO, HY⟩ := hrel
            have HW := Lib.hid (HKW.out _ _ _ HO.out).2
            by_cases hlt : i < n
            · obtain ⟨x, hx⟩ : ∃ x, ins[i]? = some x := ⟨_, List.getElem?_eq_getElem (by have := HN.out; omega)⟩
              have HX1 := Lib.hid (fm_one witB hx)
              have HXS := Lib.hid (HSI.out x (List.mem_of_getElem? hx))
              obtain ⟨ga, offa, hgaa, hga, cxa⟩ := (HT.out.below HW.out).inp i x hx
              simp only at hgaa
              subst hgaa
              have HIAa := Lib.hid ((HT.out.below HW.out).iat x (List.mem_of_getElem? hx))
              have hlena : (x).cells.length = 36 := MIn.len HIAa.out.ok
              have HATa := Lib.hid (show (x).cells[32]? = _ ∧ (x).cells[33]? = _ ∧ (x).cells[34]? = _ ∧ (x).cells[35]? = _ from inC_at (out := (x).p.out) (sc := (x).p.sc) (seq := (x).p.seq) (W := .slice (x).wa (x).p.wit.length (x).wc) HIAa.out.ok.id)
              have HAIa := Lib.hid (show ∀ (j : Nat) (u : Value), (bys (x).p.id)[j]? = some u → (x).cells[j]? = some u from fun j u hu => inC_id j u hu)
              have honea : ∀ u ∈ (x).cells, u.oneCell' = true := inC_one
              obtain ⟨Ca, hCa⟩ : ∃ C, C = (x).cells := ⟨_, rfl⟩
              rw [← hCa] at HATa HAIa honea hlena cxa
              have HCa := Lib.hid hCa
              have HTHa := Lib.hid (cpr_there 65 wr Ca hlena)
              obtain ⟨Wa, ea, kba, ba, sa⟩ := cpr_pack 65 wr Ca hlena
              have KBa := Lib.hid kba
              have HBa := Lib.hid (HW.out.trans (ba.mono HW.out.size))
              have HDa := Lib.hid ba
              have HSa := Lib.hid sa
              have HCXa := Lib.hid cxa
              have HS1a := Lib.hid (show (Try.prog.info? 65).map (·.size) = some Ca.length by rw [hlena]; exact Try.sizeRIn)
              have HS2a := Lib.hid (show (Try.prog.info? 65).map (·.size) = some Ca.toArray.size by rw [List.size_toArray, hlena]; exact Try.sizeRIn)
              have HONEa := Lib.hid (all_oneCell_toArray honea)
              have HEa := Lib.hid ea
              clear honea hlena cxa kba ba sa ea hCa
              go_upto_region 24 with (first
                | (show wpList _ _ _ (Oper.mk (some 90) _ _ _ _ _ :: _) _ _; refine wpList_load_mid rfl 65 (.tmp 89) rfl ga (offa + i * 36) rfl Ca _ HCXa.out Try.underlying65 rfl HS1a.out ?_)
                | (show wpList _ _ _ (Oper.mk (some 11) _ _ _ _ _ :: _) _ _; refine wpList_of_wp rfl fun K hK => wp_alloc_arr 65 rfl ZIN.toArray Try.zeroRIn (hK _ _ ?_))
                | (show wpList _ _ _ (Oper.mk none _ _ _ _ _ :: _) _ _; refine wpList_store_mid rfl 65 (.tmp 11) (.tmp 90) rfl wr.heap.size 0 Ca.toArray rfl rfl HTHa.out HS2a.out HONEa.out ?_))
              rw [← HEa.out]
              have HYL : Hid (us.length ≤ 1148928040) := Lib.hid (by have h1 := HY.out.2; have h9 : i * 1100000 ≤ 1126400000 := Nat.le_trans (Nat.mul_le_mul_right 1100000 (show i ≤ 1024 by omega)) (Nat.le_of_ble_eq_true rfl); omega)
              have HOX := Lib.hid (show OutX W3 Wa _ us wr.heap.size Ca from Blk.outX HO.out HDa.out KBa.out)
              have c35 := HOX.out.at_ 35 _ HATa.out.2.2.2
              have HWL : Hid (x.p.wit.length ≤ 100 ∧ ∀ q ∈ x.p.wit, B8 q ∧ q.length ≤ 10000) := Lib.hid ⟨HXS.out.wl, fun q hq => ⟨(HIAa.out.ok.wit q hq).1, HXS.out.wit q hq⟩⟩
              have HRW := Lib.hid (HT.out.iat x (List.mem_of_getElem? hx)).wit
              obtain ⟨v, hv⟩ : ∃ v, v = x.p.wit.length := ⟨_, rfl⟩
              have HVV := Lib.hid hv
              have hv100 : (v : Int) ≤ 100 := by have := HWL.out.1; omega
              have HCV := Lib.hid (fun W => refcount_any v (by omega) W)
              have HWD : Hid (witB x.p = M.compB v ++ x.p.wit.flatMap txt) := Lib.hid (by rw [hv]; rfl)
              rw [← hv] at c35 HRW
              clear hx hv
              generalize x.p.wit = wit at *
              generalize x.wa = Aw at *
              go_wp2_with fail
              refine (HCV.out _).mono ?_
              rintro ee wx ⟨vx, rfl, obx⟩
              obtain ⟨Ax, cx, rfl, _, rx⟩ := obx.buf.slice
              have ox := HOX.out.more obx.b
              obtain ⟨vy, wy, hrun, oy⟩ := ox.app cx rx (by have := compB_le v; have := HYL.out; omega)
              have HRUN := Lib.hid hrun
              have HO24 := Lib.hid oy
              have d35 := oy.at_ 35 _ HATa.out.2.2.2
              rw [← HVV.out] at d35
              clear hrun ox oy rx obx c35
              go_upto_region 25 with (show wpList _ _ _ (Oper.mk (some 96) _ _ _ _ _ :: _) _ _; refine arm_append 27 (.tmp 91) (.tmp 95) (v' := ?_) (w' := ?_) ?hr1 ?_; case hr1 => exact HRUN.out)
              clear HRUN
              go_upto_region 26 with fail
              clear d35
              go_loopg [5, 13, 100] v (fun ky t5 t13 t100 wy => ∃ (j : Nat) (zs2 : List Nat), j ≤ v ∧ t100 = .int .i64 j ∧ v - j ≤ ky ∧ Hid (OutX W3 wy t5 zs2 wr.heap.size Ca) ∧ Hid (zs2 = (us ++ M.compB v) ++ (wit.take j).flatMap txt ∧ zs2.length ≤ us.length + 20 + j * 10010))
              case atStart => exact ⟨0, _, Nat.zero_le _, rfl, Nat.le_refl _, HO24, Lib.hid ⟨by simp, by have := compB_le v; rw [List.length_append]; omega⟩⟩
              case round =>
                clear HO24 HOX
                obtain ⟨j, zs2, hj, rfl, hkj, HQ, HQE⟩ := hrel
                by_cases hlj : j < v
                · obtain ⟨q, hq⟩ : ∃ q, wit[j]? = some q := ⟨_, List.getElem?_eq_getElem (by have := HVV.out; omega)⟩
                  obtain ⟨ga, oa2, hwa, hga, cp⟩ := strs_at (HRW.out.below (HKW.out _ _ _ HQ.out.o).2) j q hq
                  subst hwa
                  have HQ1 := Lib.hid (HWL.out.2 q (List.mem_of_getElem? hq))
                  have HZL : Hid (zs2.length ≤ 1149929060) := Lib.hid (by have h1 := HQE.out.2; have h2 := HYL.out; have := Nat.mul_le_mul_right 10010 (show j ≤ 100 by omega); omega)
                  have HFI : Hid (zs2 ++ txt q = (us ++ M.compB v) ++ (wit.take (j + 1)).flatMap txt ∧ (zs2 ++ txt q).length ≤ us.length + 20 + (j + 1) * 10010) := Lib.hid (by
                    refine ⟨by rw [take_one hq, List.flatMap_append, HQE.out.1]; simp only [List.flatMap_cons, List.flatMap_nil, List.append_nil, List.append_assoc], ?_⟩
                    have h1 := HQE.out.2
                    have h2 := txt_le q
                    have h3 := HQ1.out.2
                    rw [List.length_append, Nat.succ_mul]
                    omega)
                  clear hq
                  go_upto_region 28 with fail
                  clear cp
                  go_wp2_with fail
                  refine (HTX.out _ q HQ1.out.1 (by have := HQ1.out.2; omega)).mono ?_
                  rintro ee wx ⟨vx, rfl, obx⟩
                  obtain ⟨Ax, cx, rfl, _, rx⟩ := obx.buf.slice
                  have ox := HQ.out.more obx.b
                  obtain ⟨vy, wy, hrun, oy⟩ := ox.app cx rx (by have := HZL.out; have := txt_le q; have := HQ1.out.2; omega)
                  have HRUN := Lib.hid hrun
                  have HO28 := Lib.hid oy
                  clear hrun ox oy rx obx
                  go_upto_region 29 with (show wpList _ _ _ (Oper.mk (some 107) _ _ _ _ _ :: _) _ _; refine arm_append 27 (.tmp 104) (.tmp 106) (v' := ?_) (w' := ?_) ?hr1 ?_; case hr1 => exact HRUN.out)
                  clear HRUN
                  go_wp2
                  go_roundg (v - (j + 1))
                  case measure => omega
                  case rel => exact ⟨j + 1, _, by omega, by go_num, Nat.le_refl _, HO28, HFI⟩
                · have HFI : Hid (zs2 = zs ++ fm witB (ins.take (i + 1)) ∧ zs2.length ≤ 22528040 + (i + 1) * 1100000) := Lib.hid (by
                    refine ⟨?_, ?_⟩
                    · rw [HX1.out, HWD.out, HQE.out.1, HY.out.1, List.take_of_length_le (l := wit) (i := j) (by have := HVV.out; omega)]
                      simp only [List.append_assoc]
                    · have h1 := HQE.out.2
                      have h2 := HY.out.2
                      have := Nat.mul_le_mul_right 10010 (show j ≤ 100 by omega)
                      rw [Nat.succ_mul]
                      omega)
                  go_wp2
                  go_roundg (n - (i + 1))
                  case measure => omega
                  case rel => exact ⟨i + 1, _, by omega, by go_num, Nat.le_refl _, Lib.hid HQ.out.o, HFI⟩
            · have HU9 : Hid (us = zs ++ fm witB ins ∧ us.length ≤ 1148928040) := Lib.hid ⟨by rw [HY.out.1, List.take_of_length_le (by have := HN.out; omega)], by have h1 := HY.out.2; have h9 : i * 1100000 ≤ 1126400000 := Nat.le_trans (Nat.mul_le_mul_right 1100000 (show i ≤ 1024 by omega)) (Nat.le_of_ble_eq_true rfl); omega⟩
              have c3 := (HKW.out _ _ _ HO.out).1.c3
              have hwl : IntKind.u64.wrap (lock : Int) = (lock : Int) := by have : lock < 4294967296 := HLK.out; rw [IntKind.wrap_u64]; omega
              have HQL : Hid (lock < 4294967296) := HLK
              go_wp2_with fail
              refine (HLI.out _ lock 4 (by have := HQL.out; omega) (by omega)).mono ?_
              rintro ee wx ⟨vx, rfl, bfx, bx⟩
              obtain ⟨Ax, cx, rfl, _, rx⟩ := bfx.slice
              have ox := HO.out.more bx
              obtain ⟨vy, wy, hrun, oy, _⟩ := ox.app cx rx (by have := HU9.out.2; omega)
              have HRUN := Lib.hid hrun
              have HO31 := Lib.hid oy
              clear hrun ox oy rx bfx bx c3 hwl
              go_wp2_with (show wpList _ _ _ (Oper.mk (some 115) _ _ _ _ _ :: _) _ _; refine arm_append 27 (.tmp 110) (.tmp 114) (v' := ?_) (w' := ?_) ?hr1 ?_; case hr1 => exact HRUN.out)
              clear HRUN
              go_ret
              have HE : Hid (LB = us ++ M.leB lock 4) := Lib.hid (by rw [HLB.out, HU9.out.1, HZ9.out.1, HPE.out])
              refine ⟨_, rfl, ?_, (HKW.out _ _ _ HO31.out).2⟩
              rw [HE.out]
              exact HO31.out.buf.base_le HS3.out
end Go.Proofs.Ytkdkihacpjhgmaa
