/- Walks: (tx.Tx).lay. -/
import Derived.Test.YtkdkihacpjhgmaaX7
namespace Go.Proofs.Ytkdkihacpjhgmaa
set_option linter.unusedSimpArgs false
set_option linter.unusedVariables false
open Go.RowKit

theorem LaidB.trans {w w1 w2 : World} {base : Nat} {v v1 v2 : Value} {ys zs : List Nat} (h : LaidB w base v w1 v1 ys) (g : LaidB w1 base v1 w2 v2 zs) : LaidB w base v w2 v2 zs := Laid.trans h g
theorem LaidB.below {w w' : World} {base : Nat} {v' : Value} {ys : List Nat} (h : LaidB w base (.slice none 0 0) w' v' ys) (hB : base ≤ w.heap.size) : Below base w w' := Laid.below h (Buf.nil w base) hB
theorem LaidB.keeps {w w' : World} {base : Nat} {v' : Value} {ys : List Nat} {g : Nat} {a b c d : Value} (h : LaidB w base (.slice none 0 0) w' v' ys) (k : Bx4 w g a b c d) : Bx4 w' g a b c d :=
  k.keep ((Laid.grown h).block g k.lt (by simp [Value.ownBlock]))
theorem fo_one (f : TOut → List Nat) {l : List TOut} {i : Nat} {x : TOut} (h : l[i]? = some x) : (l.take (i + 1)).flatMap f = (l.take i).flatMap f ++ f x := by
  rw [take_one h, List.flatMap_append]; simp
theorem fo_le (f : TOut → List Nat) (l : List TOut) (i : Nat) : ((l.take i).flatMap f).length ≤ (l.flatMap f).length := by
  conv => rhs; rw [← List.take_append_drop i l, List.flatMap_append, List.length_append]
  omega
theorem layB_is (ver : Int) (ins : List MIn) (ia : Option Addr) (ic : Nat) (outs : List TOut) (oa : Option Addr) (oc lock : Nat) (b : Bool) :
    layB (MTx.p ⟨ver, ins, ia, ic, outs, oa, oc, lock⟩) b = (((((((M.leB (uw ver) 4 ++ (if b then [0, 1] else [])) ++ M.compB ins.length) ++ fm inB ins) ++ M.compB outs.length) ++ outs.flatMap outB) ++ (if b then fm witB ins else [])) ++ M.leB lock 4) := by
  unfold layB MTx.p preB fm
  simp only [List.length_map]

set_option maxHeartbeats 4000000 in
set_option maxRecDepth 100000 in
theorem layF_any (w : World) (t : MTx) (h : TxAt w w.heap.size t) (hN : (layB t.p false).length ≤ 100000000) :
    Calls Try.prog 21 #[t.val, .bool false] w fun e w' => ∃ v', e = .returned v' ∧ Buf w' w.heap.size v' (layB t.p false).length (bys (layB t.p false)) ∧ Below w.heap.size w w' := by
  obtain ⟨i0, hi5, hz0, hz1, hz2⟩ := info_parts Try.info5
  obtain ⟨ver, ins, ia, ic, outs, oa, oc, lock⟩ := t
  have hil : (ins.length : Int) ≤ 9223372036854775807 := by have h1 := h.il; have h2 := h.ic; simp only at h1 h2; omega
  have hol : (outs.length : Int) ≤ 9223372036854775807 := by have h1 := h.ol; have h2 := h.oc; simp only at h1 h2; omega
  have HLK := Lib.hid h.lock
  have HT := Lib.hid h
  have HLB := Lib.hid (layB_is ver ins ia ic outs oa oc lock false)
  simp only [Bool.false_eq_true, if_false, List.append_nil] at HLB
  generalize layB (MTx.p ⟨ver, ins, ia, ic, outs, oa, oc, lock⟩) false = LB at *
  show Calls Try.prog 21 #[.agg #[.int .i32 ver, .slice ia ins.length ic, .slice oa outs.length oc, .int .u32 (lock : Int)], .bool false] w _
  have HBD : Hid ((M.leB (uw ver) 4).length + (M.compB ins.length).length + (fm inB ins).length + (M.compB outs.length).length + (outs.flatMap outB).length + 0 + 4 ≤ 100000000) := Lib.hid (by
    have e := congrArg List.length HLB.out
    simp only [List.length_append, M.leB_len] at e ⊢
    omega)
  obtain ⟨n, hn⟩ : ∃ n, n = ins.length := ⟨_, rfl⟩
  obtain ⟨m, hm⟩ : ∃ m, m = outs.length := ⟨_, rfl⟩
  rw [← hn] at hil HLB HBD ⊢
  rw [← hm] at hol HLB HBD ⊢
  have HN := Lib.hid hn
  have HM := Lib.hid hm
  obtain ⟨W3, e3⟩ : ∃ W3, W3 = w.alloc (.cells #[.int .i32 ver, .slice ia n ic, .slice oa m oc, .int .u32 (lock : Int)] 26) := ⟨_, rfl⟩
  have hB3 : Below w.heap.size w W3 := by rw [e3]; exact (Below.refl _ _).alloc (Nat.le_refl _) _
  have k0 : Bx4 W3 w.heap.size (.int .i32 ver) (.slice ia n ic) (.slice oa m oc) (.int .u32 (lock : Int)) := by rw [e3]; exact Bx4.new _ _ _ _ _ _
  have s3 : w.heap.size ≤ W3.heap.size := by rw [e3]; simp
  have c0 := k0.c0
  have HK0 := Lib.hid k0
  have HB3 := Lib.hid hB3
  have HE3 := Lib.hid e3
  have HS3 := Lib.hid s3
  have HWB : Hid (∀ wr v' ys, LaidB W3 w.heap.size (.slice none 0 0) wr v' ys → Below w.heap.size w wr) := Lib.hid (fun wr v' ys hL => HB3.out.trans (LaidB.below hL HS3.out))
  have HP1 := Lib.hid (putL_any (uw ver) (uw_lt ver) 4 (by omega) W3 w.heap.size (xs := []) (Buf.nil W3 w.heap.size) (by omega) s3)
  clear hB3 k0 e3 h hn hm s3 hN
  go_enter Try.func21, Try.ntmps21
  go_upto_region 1 with fail
  rw [← HE3.out]
  go_wp2_with fail
  rw [IntKind.wrap_u64, uw_cast]
  refine HP1.out.mono ?_
  rintro e w4 ⟨v4, rfl, hl4⟩
  have HL4 : Hid (LaidB W3 w.heap.size (.slice none 0 0) w4 v4 (M.leB (uw ver) 4)) := Lib.hid (by
    unfold LaidB; rw [M.leB_len]; simpa using hl4)
  clear hl4 c0
  have HL5 := HL4
  obtain ⟨w5, hw5⟩ : ∃ w5, w5 = w4 := ⟨_, rfl⟩
  obtain ⟨u5, hu5⟩ : ∃ u5, u5 = v4 := ⟨_, rfl⟩
  rw [← hw5, ← hu5] at HL5
  rw [← hw5, ← hu5]
  clear hw5 hu5
  have c1 := (HL5.out.keeps HK0.out).c1
  have HP6 := Lib.hid (putCount_any n (by omega) w5 w.heap.size HL5.out.buf (by have := HBD.out; omega) (Nat.le_trans HS3.out HL5.out.size))
  go_upto_region 5 with (go_at_call 32; refine HP6.out.mono ?_; rintro e w6 ⟨v6, rfl, hl6⟩; have HL6 := Lib.hid (HL5.out.step hl6 rfl); clear hl6)
  clear c1
  have c1 := (HL6.out.keeps HK0.out).c1
  go_upto_region 6 with fail
  clear c1
  obtain ⟨P6, hP6⟩ : ∃ P6, P6 = (M.leB (uw ver) 4) ++ M.compB n := ⟨_, rfl⟩
  rw [← hP6] at HL6 HLB
  have HPL : Hid (P6.length = (M.leB (uw ver) 4).length + (M.compB n).length) := Lib.hid (by rw [hP6, List.length_append])
  rw [← HPL.out] at HBD
  clear hP6
  go_loopg [5, 7, 26] n (fun kx s5 s7 s26 wr => ∃ (i : Nat) (ys : List Nat), i ≤ n ∧ s26 = .int .i64 i ∧ n - i ≤ kx ∧ Hid (LaidB W3 w.heap.size (.slice none 0 0) wr s5 ys) ∧ Hid (ys = P6 ++ fm inB (ins.take i)))
  case atStart => exact ⟨0, P6, Nat.zero_le _, rfl, Nat.le_refl _, HL6, Lib.hid (by simp [fm])⟩
  case round =>
    obtain ⟨i, ys, hi, rfl, hk, HL, HY⟩ := hrel
    have HW : Hid (Below w.heap.size w wr) := Lib.hid (HWB.out _ _ _ HL.out)
    by_cases hlt : i < n
    · obtain ⟨x, hx⟩ : ∃ x, ins[i]? = some x := ⟨_, List.getElem?_eq_getElem (by have := HN.out; omega)⟩
      have HX1 := Lib.hid (fm_one inB hx)
      have HX2 := Lib.hid (fm_le inB ins (i + 1))
      obtain ⟨g, off, rfl, hg, cx⟩ := (HT.out.below HW.out).inp i x hx
      have HIA := Lib.hid ((HT.out.below HW.out).iat x (List.mem_of_getElem? hx))
      have hlen : x.cells.length = 36 := MIn.len HIA.out.ok
      have HAT := Lib.hid (show x.cells[32]? = _ ∧ x.cells[33]? = _ ∧ x.cells[34]? = _ ∧ x.cells[35]? = _ from inC_at (out := x.p.out) (sc := x.p.sc) (seq := x.p.seq) (W := .slice x.wa x.p.wit.length x.wc) HIA.out.ok.id)
      have HXC := Lib.hid (show ∃ C, C = x.cells from ⟨_, rfl⟩)
      have hone : ∀ u ∈ x.cells, u.oneCell' = true := inC_one
      obtain ⟨C, hC⟩ := HXC.out
      rw [← hC] at HAT hone hlen cx
      have HC := Lib.hid hC
      have HTH := Lib.hid (cp_there wr C hlen)
      obtain ⟨W5, e5, kb, b5, s5⟩ := cp_pack wr C hlen
      have KB := Lib.hid kb
      have HB5 := Lib.hid (HW.out.trans (b5.mono (by first | exact HW.out.size | exact HBW.out)))
      have HB15 := Lib.hid b5
      have HS5 := Lib.hid s5
      have HCX := Lib.hid cx
      have HS1 := Lib.hid (show (Try.prog.info? 58).map (·.size) = some C.length by rw [hlen]; exact Try.sizeIn)
      have HS2 := Lib.hid (show (Try.prog.info? 58).map (·.size) = some C.toArray.size by rw [List.size_toArray, hlen]; exact Try.sizeIn)
      have HONE := Lib.hid (all_oneCell_toArray hone)
      have HE5 := Lib.hid e5
      clear hone hlen cx kb b5 s5 e5 hC HXC
      go_upto_region 8 with (first
        | (refine wpList_load_mid rfl 58 (.tmp 28) rfl g (off + i * 36) rfl C _ HCX.out Try.underlying58 rfl HS1.out ?_)
        | (refine wpList_of_wp rfl fun K hK => wp_alloc_arr 58 rfl ZIN.toArray Try.zeroIn (hK _ _ ?_))
        | (refine wpList_store_mid rfl 58 (.tmp 7) (.tmp 29) rfl wr.heap.size 0 C.toArray rfl rfl HTH.out HS2.out HONE.out ?_))
      rw [← HE5.out]
      have hyl : Hid (ys.length + (inB x.p).length ≤ 100000000) := Lib.hid (by
        have a := HY.out; have b := HX1.out; have c := HX2.out; have d := HBD.out
        rw [b, List.length_append] at c
        rw [a, List.length_append]
        omega)
      have HL5b := Lib.hid (HL.out.more HB15.out)
      have hbl := inB_len x.p HIA.out.ok.id
      have hpl : x.p.sc.length ≤ (txt x.p.sc).length := by unfold txt; rw [List.length_append]; omega
      have HPC := Lib.hid (inPut_any x HIA.out.ok (by have := hyl.out; omega) W5 w.heap.size HL5b.out.buf (by have := hyl.out; omega) (Nat.le_trans HS3.out HL5b.out.size))
      rw [← HC.out] at HPC
      have HYN : Hid (ys ++ inB x.p = P6 ++ fm inB (ins.take (i + 1))) := Lib.hid (by rw [HX1.out, HY.out, List.append_assoc])
      have HRG := Lib.hid (show W5.rangeAt wr.heap.size 0 C from KB.out.range)
      generalize inB x.p = IB at *
      clear hx hbl hpl
      go_wp2_with ((refine wpList_load_mid rfl 58 (.tmp 7) rfl wr.heap.size 0 rfl C _ HRG.out Try.underlying58 rfl HS1.out ?_))
      refine HPC.out.mono ?_
      rintro e w6b ⟨v6b, rfl, hl6b⟩
      have HL6b := Lib.hid (HL5b.out.step hl6b rfl)
      clear hl6b
      go_wp2
      go_roundg (n - (i + 1))
      case measure => omega
      case rel => exact ⟨i + 1, ys ++ IB, by omega, by go_num, Nat.le_refl _, HL6b, HYN⟩
    · have HY7 : Hid (ys = P6 ++ fm inB ins) := Lib.hid (by
        rw [HY.out, List.take_of_length_le (by have := HN.out; omega)])
      obtain ⟨P7, hP7⟩ : ∃ P7, P7 = P6 ++ fm inB ins := ⟨_, rfl⟩
      rw [← hP7] at HLB HY7
      have HPL7 : Hid (P7.length = P6.length + (fm inB ins).length) := Lib.hid (by rw [hP7, List.length_append])
      rw [← HPL7.out] at HBD
      have HL7 : Hid (LaidB W3 w.heap.size (.slice none 0 0) wr u5 P7) := Lib.hid (by rw [← HY7.out]; exact HL.out)
      have c2 := (HL7.out.keeps HK0.out).c2
      have HP8 := Lib.hid (putCount_any m (by omega) wr w.heap.size HL7.out.buf (by have := HBD.out; omega) (Nat.le_trans HS3.out HL7.out.size))
      clear hP7
      go_upto_region 11 with (go_at_call 32; refine HP8.out.mono ?_; rintro e w8 ⟨v8, rfl, hl8⟩; have HL8 := Lib.hid (HL7.out.step hl8 rfl); clear hl8)
      clear c2
      have c2 := (HL8.out.keeps HK0.out).c2
      go_upto_region 12 with fail
      clear c2
      obtain ⟨P8, hP8⟩ : ∃ P8, P8 = P7 ++ M.compB m := ⟨_, rfl⟩
      rw [← hP8] at HL8 HLB
      have HPL8 : Hid (P8.length = P7.length + (M.compB m).length) := Lib.hid (by rw [hP8, List.length_append])
      rw [← HPL8.out] at HBD
      clear hP8
      go_loopg [5, 9, 42] m (fun kx s5 s9 s42 wr => ∃ (i : Nat) (ys : List Nat), i ≤ m ∧ s42 = .int .i64 i ∧ m - i ≤ kx ∧ Hid (LaidB W3 w.heap.size (.slice none 0 0) wr s5 ys) ∧ Hid (ys = P8 ++ (outs.take i).flatMap outB))
      case atStart => exact ⟨0, P8, Nat.zero_le _, rfl, Nat.le_refl _, HL8, Lib.hid (by simp)⟩
      case round =>
        obtain ⟨j, zs, hj, rfl, hkj, HZ, HZE⟩ := hrel
        have HWZ := Lib.hid (HWB.out _ _ _ HZ.out)
        by_cases hlj : j < m
        · obtain ⟨p, hp⟩ : ∃ p, outs[j]? = some p := ⟨_, List.getElem?_eq_getElem (by have := HM.out; omega)⟩
          obtain ⟨ga, oa2, rfl, hga, ca, cb⟩ := (HT.out.below HWZ.out).outp j p hp
          have HOK := Lib.hid (HT.out.ook p (List.mem_of_getElem? hp))
          have HX1 := Lib.hid (fo_one outB hp)
          have HX2 := Lib.hid (fo_le outB outs (j + 1))
          have hyl : Hid (zs.length + (outB p).length ≤ 100000000) := Lib.hid (by
            have a := HZE.out; have b := HX1.out; have c := HX2.out; have d := HBD.out
            rw [b, List.length_append] at c
            rw [a, List.length_append]
            omega)
          have HYN : Hid ((zs ++ M.leB (uw p.coins) 8) ++ txt p.sc = P8 ++ (outs.take (j + 1)).flatMap outB) := Lib.hid (by rw [HX1.out, HZE.out]; unfold outB; simp only [List.append_assoc])
          have HOL : Hid ((outB p).length = 8 + (txt p.sc).length ∧ p.sc.length ≤ (txt p.sc).length) := Lib.hid
            ⟨by unfold outB; rw [List.length_append, M.leB_len], by unfold txt; rw [List.length_append]; omega⟩
          obtain ⟨W9, e9⟩ : ∃ W9, W9 = wr.alloc (.cells #[.int .i64 p.coins, .string (strB p.sc)] 49) := ⟨_, rfl⟩
          have b9 : Below wr.heap.size wr W9 := by rw [e9]; exact (Below.refl _ _).alloc (Nat.le_refl _) _
          have x9 : Bx2 W9 wr.heap.size (.int .i64 p.coins) (.string (strB p.sc)) := by rw [e9]; exact Bx2.new _ _ _ _
          have HL9 := Lib.hid (HZ.out.more b9)
          have hne9 : u5.ownBlock ≠ some wr.heap.size := fun e => by have := (HZ.out.buf.lt _ e).2; omega
          have HPA := Lib.hid (putL_any (uw p.coins) (uw_lt _) 8 (by omega) W9 w.heap.size HL9.out.buf (by have := hyl.out; omega) (Nat.le_trans HS3.out HL9.out.size))
          have HX9 := Lib.hid x9
          have HE9 := Lib.hid e9
          have d0 := x9.c0
          have HNE9 := Lib.hid hne9
          clear hp x9 e9 b9 hne9
          go_upto_region 14 with fail
          rw [← HE9.out]
          clear ca cb
          go_wp2_with fail
          rw [IntKind.wrap_u64, uw_cast]
          refine HPA.out.mono ?_
          rintro e w10 ⟨v10, rfl, hl10⟩
          have HL10 := Lib.hid (HL9.out.step hl10 (M.leB_len _ _))
          have x10 := HX9.out.keep (hl10.grown.block _ HX9.out.lt (fun e => HNE9.out e.symm))
          have d1 := x10.c1
          have HPT := Lib.hid (putText_any p.sc HOK.out.sc (by have := hyl.out; have := HOL.out; omega) w10 w.heap.size HL10.out.buf (by have := hyl.out; have := HOL.out; rw [List.length_append, M.leB_len]; omega) (Nat.le_trans HS3.out HL10.out.size))
          clear hl10 d0 x10
          go_wp2_with fail
          refine HPT.out.mono ?_
          rintro e w11 ⟨v11, rfl, hl11⟩
          have HL11 := Lib.hid (HL10.out.step hl11 rfl)
          rw [HYN.out] at HL11
          clear hl11 d1
          go_wp2
          go_roundg (m - (j + 1))
          case measure => omega
          case rel => exact ⟨j + 1, _, by omega, by go_num, Nat.le_refl _, HL11, Lib.hid rfl⟩
        · have HY9 : Hid (zs = P8 ++ outs.flatMap outB) := Lib.hid (by
            rw [HZE.out, List.take_of_length_le (by have := HM.out; omega)])
          obtain ⟨P9, hP9⟩ : ∃ P9, P9 = P8 ++ outs.flatMap outB := ⟨_, rfl⟩
          rw [← hP9] at HLB HY9
          have HPL9 : Hid (P9.length = P8.length + (outs.flatMap outB).length) := Lib.hid (by rw [hP9, List.length_append])
          rw [← HPL9.out] at HBD
          have HL9 : Hid (LaidB W3 w.heap.size (.slice none 0 0) wr u5 P9) := Lib.hid (by rw [← HY9.out]; exact HZ.out)
          clear hP9
          have HL12 := HL9
          obtain ⟨w12, hw12⟩ : ∃ w12, w12 = wr := ⟨_, rfl⟩
          obtain ⟨v12, hv12⟩ : ∃ v12, v12 = u5 := ⟨_, rfl⟩
          rw [← hw12, ← hv12] at HL12
          obtain ⟨PA, hPA⟩ : ∃ PA, PA = P9 := ⟨_, rfl⟩
          rw [← hPA] at HLB HL12
          have HPLA : Hid (PA.length = P9.length) := Lib.hid (by rw [hPA])
          go_upto_region 19 with fail
          rw [← hw12, ← hv12]
          clear hPA hw12 hv12
          have c3 := (HL12.out.keeps HK0.out).c3
          have HPZ := Lib.hid (putL_any lock (by have := HLK.out; omega) 4 (by omega) w12 w.heap.size HL12.out.buf (by have := HBD.out; have := HPLA.out; omega) (Nat.le_trans HS3.out HL12.out.size))
          have hlk : (lock : Int) ≤ 18446744073709551615 := by have := HLK.out; omega
          go_wp2_with fail
          refine HPZ.out.mono ?_
          rintro e w13 ⟨v13, rfl, hl13⟩
          have HL13 := Lib.hid (HL12.out.step hl13 (M.leB_len _ _))
          rw [← HLB.out] at HL13
          clear c3 hl13
          go_wp2
          go_ret
          exact ⟨_, rfl, HL13.out.buf, HWB.out _ _ _ HL13.out⟩

set_option maxHeartbeats 4000000 in
set_option maxRecDepth 100000 in
theorem layT_any (w : World) (t : MTx) (h : TxAt w w.heap.size t) (hN : (layB t.p true).length ≤ 100000000) :
    Calls Try.prog 21 #[t.val, .bool true] w fun e w' => ∃ v', e = .returned v' ∧ Buf w' w.heap.size v' (layB t.p true).length (bys (layB t.p true)) ∧ Below w.heap.size w w' := by
  obtain ⟨i0, hi5, hz0, hz1, hz2⟩ := info_parts Try.info5
  obtain ⟨ver, ins, ia, ic, outs, oa, oc, lock⟩ := t
  have hil : (ins.length : Int) ≤ 9223372036854775807 := by have h1 := h.il; have h2 := h.ic; simp only at h1 h2; omega
  have hol : (outs.length : Int) ≤ 9223372036854775807 := by have h1 := h.ol; have h2 := h.oc; simp only at h1 h2; omega
  have HLK := Lib.hid h.lock
  have HT := Lib.hid h
  have HLB := Lib.hid (layB_is ver ins ia ic outs oa oc lock true)
  simp only [if_true] at HLB
  generalize layB (MTx.p ⟨ver, ins, ia, ic, outs, oa, oc, lock⟩) true = LB at *
  show Calls Try.prog 21 #[.agg #[.int .i32 ver, .slice ia ins.length ic, .slice oa outs.length oc, .int .u32 (lock : Int)], .bool true] w _
  have HBD : Hid ((M.leB (uw ver) 4 ++ [0, 1]).length + (M.compB ins.length).length + (fm inB ins).length + (M.compB outs.length).length + (outs.flatMap outB).length + (fm witB ins).length + 4 ≤ 100000000) := Lib.hid (by
    have e := congrArg List.length HLB.out
    simp only [List.length_append, M.leB_len] at e ⊢
    omega)
  obtain ⟨n, hn⟩ : ∃ n, n = ins.length := ⟨_, rfl⟩
  obtain ⟨m, hm⟩ : ∃ m, m = outs.length := ⟨_, rfl⟩
  rw [← hn] at hil HLB HBD ⊢
  rw [← hm] at hol HLB HBD ⊢
  have HN := Lib.hid hn
  have HM := Lib.hid hm
  obtain ⟨W3, e3⟩ : ∃ W3, W3 = w.alloc (.cells #[.int .i32 ver, .slice ia n ic, .slice oa m oc, .int .u32 (lock : Int)] 26) := ⟨_, rfl⟩
  have hB3 : Below w.heap.size w W3 := by rw [e3]; exact (Below.refl _ _).alloc (Nat.le_refl _) _
  have k0 : Bx4 W3 w.heap.size (.int .i32 ver) (.slice ia n ic) (.slice oa m oc) (.int .u32 (lock : Int)) := by rw [e3]; exact Bx4.new _ _ _ _ _ _
  have s3 : w.heap.size ≤ W3.heap.size := by rw [e3]; simp
  have c0 := k0.c0
  have HK0 := Lib.hid k0
  have HB3 := Lib.hid hB3
  have HE3 := Lib.hid e3
  have HS3 := Lib.hid s3
  have HWB : Hid (∀ wr v' ys, LaidB W3 w.heap.size (.slice none 0 0) wr v' ys → Below w.heap.size w wr) := Lib.hid (fun wr v' ys hL => HB3.out.trans (LaidB.below hL HS3.out))
  have HP1 := Lib.hid (putL_any (uw ver) (uw_lt ver) 4 (by omega) W3 w.heap.size (xs := []) (Buf.nil W3 w.heap.size) (by omega) s3)
  clear hB3 k0 e3 h hn hm s3 hN
  go_enter Try.func21, Try.ntmps21
  go_upto_region 1 with fail
  rw [← HE3.out]
  go_wp2_with fail
  rw [IntKind.wrap_u64, uw_cast]
  refine HP1.out.mono ?_
  rintro e w4 ⟨v4, rfl, hl4⟩
  have HL4 : Hid (LaidB W3 w.heap.size (.slice none 0 0) w4 v4 (M.leB (uw ver) 4)) := Lib.hid (by
    unfold LaidB; rw [M.leB_len]; simpa using hl4)
  clear hl4 c0
  have hbf4 := HL4.out.buf
  have hs4 := Nat.le_trans HS3.out HL4.out.size
  rw [M.leB_len] at hbf4
  go_upto_region 4 with (at_builtin; refine wpList_append_lit rfl (.tmp 15) (.tmp 16) 27 rfl w.heap.size 5 i0 (.int .u8 0) 1 Try.underlying27 hi5 hz0 hz1 hz2 rfl rfl hbf4 (C := #[.int .u8 0, .int .u8 1]) (m := 2) rfl rfl (by simp [Value.oneCell']) ?b7 ?b8 hs4 ?next)
  case b7 => unfold maxLen; omega
  case b8 => omega
  case next =>
   intro u5 w5 r1 r2 r3
   have HL5 : Hid (LaidB W3 w.heap.size (.slice none 0 0) w5 u5 (M.leB (uw ver) 4 ++ [0, 1])) := Lib.hid (HL4.out.step (k := 2) (by rw [M.leB_len, bys_app]; exact ⟨r1, r2, r3⟩) rfl)
   clear r1 r2 r3 hbf4 hs4
   have c1 := (HL5.out.keeps HK0.out).c1
   have HP6 := Lib.hid (putCount_any n (by omega) w5 w.heap.size HL5.out.buf (by have := HBD.out; omega) (Nat.le_trans HS3.out HL5.out.size))
   go_upto_region 5 with (go_at_call 32; refine HP6.out.mono ?_; rintro e w6 ⟨v6, rfl, hl6⟩; have HL6 := Lib.hid (HL5.out.step hl6 rfl); clear hl6)
   clear c1
   have c1 := (HL6.out.keeps HK0.out).c1
   go_upto_region 6 with fail
   clear c1
   obtain ⟨P6, hP6⟩ : ∃ P6, P6 = (M.leB (uw ver) 4 ++ [0, 1]) ++ M.compB n := ⟨_, rfl⟩
   rw [← hP6] at HL6 HLB
   have HPL : Hid (P6.length = (M.leB (uw ver) 4 ++ [0, 1]).length + (M.compB n).length) := Lib.hid (by rw [hP6, List.length_append])
   rw [← HPL.out] at HBD
   clear hP6
   go_loopg [5, 7, 26] n (fun kx s5 s7 s26 wr => ∃ (i : Nat) (ys : List Nat), i ≤ n ∧ s26 = .int .i64 i ∧ n - i ≤ kx ∧ Hid (LaidB W3 w.heap.size (.slice none 0 0) wr s5 ys) ∧ Hid (ys = P6 ++ fm inB (ins.take i)))
   case atStart => exact ⟨0, P6, Nat.zero_le _, rfl, Nat.le_refl _, HL6, Lib.hid (by simp [fm])⟩
   case round =>
     obtain ⟨i, ys, hi, rfl, hk, HL, HY⟩ := hrel
     have HW : Hid (Below w.heap.size w wr) := Lib.hid (HWB.out _ _ _ HL.out)
     by_cases hlt : i < n
     · obtain ⟨x, hx⟩ : ∃ x, ins[i]? = some x := ⟨_, List.getElem?_eq_getElem (by have := HN.out; omega)⟩
       have HX1 := Lib.hid (fm_one inB hx)
       have HX2 := Lib.hid (fm_le inB ins (i + 1))
       obtain ⟨g, off, rfl, hg, cx⟩ := (HT.out.below HW.out).inp i x hx
       have HIA := Lib.hid ((HT.out.below HW.out).iat x (List.mem_of_getElem? hx))
       have hlen : x.cells.length = 36 := MIn.len HIA.out.ok
       have HAT := Lib.hid (show x.cells[32]? = _ ∧ x.cells[33]? = _ ∧ x.cells[34]? = _ ∧ x.cells[35]? = _ from inC_at (out := x.p.out) (sc := x.p.sc) (seq := x.p.seq) (W := .slice x.wa x.p.wit.length x.wc) HIA.out.ok.id)
       have HXC := Lib.hid (show ∃ C, C = x.cells from ⟨_, rfl⟩)
       have hone : ∀ u ∈ x.cells, u.oneCell' = true := inC_one
       obtain ⟨C, hC⟩ := HXC.out
       rw [← hC] at HAT hone hlen cx
       have HC := Lib.hid hC
       have HTH := Lib.hid (cp_there wr C hlen)
       obtain ⟨W5, e5, kb, b5, s5⟩ := cp_pack wr C hlen
       have KB := Lib.hid kb
       have HB5 := Lib.hid (HW.out.trans (b5.mono (by first | exact HW.out.size | exact HBW.out)))
       have HB15 := Lib.hid b5
       have HS5 := Lib.hid s5
       have HCX := Lib.hid cx
       have HS1 := Lib.hid (show (Try.prog.info? 58).map (·.size) = some C.length by rw [hlen]; exact Try.sizeIn)
       have HS2 := Lib.hid (show (Try.prog.info? 58).map (·.size) = some C.toArray.size by rw [List.size_toArray, hlen]; exact Try.sizeIn)
       have HONE := Lib.hid (all_oneCell_toArray hone)
       have HE5 := Lib.hid e5
       clear hone hlen cx kb b5 s5 e5 hC HXC
       go_upto_region 8 with (first
         | (refine wpList_load_mid rfl 58 (.tmp 28) rfl g (off + i * 36) rfl C _ HCX.out Try.underlying58 rfl HS1.out ?_)
         | (refine wpList_of_wp rfl fun K hK => wp_alloc_arr 58 rfl ZIN.toArray Try.zeroIn (hK _ _ ?_))
         | (refine wpList_store_mid rfl 58 (.tmp 7) (.tmp 29) rfl wr.heap.size 0 C.toArray rfl rfl HTH.out HS2.out HONE.out ?_))
       rw [← HE5.out]
       have hyl : Hid (ys.length + (inB x.p).length ≤ 100000000) := Lib.hid (by
         have a := HY.out; have b := HX1.out; have c := HX2.out; have d := HBD.out
         rw [b, List.length_append] at c
         rw [a, List.length_append]
         omega)
       have HL5b := Lib.hid (HL.out.more HB15.out)
       have hbl := inB_len x.p HIA.out.ok.id
       have hpl : x.p.sc.length ≤ (txt x.p.sc).length := by unfold txt; rw [List.length_append]; omega
       have HPC := Lib.hid (inPut_any x HIA.out.ok (by have := hyl.out; omega) W5 w.heap.size HL5b.out.buf (by have := hyl.out; omega) (Nat.le_trans HS3.out HL5b.out.size))
       rw [← HC.out] at HPC
       have HYN : Hid (ys ++ inB x.p = P6 ++ fm inB (ins.take (i + 1))) := Lib.hid (by rw [HX1.out, HY.out, List.append_assoc])
       have HRG := Lib.hid (show W5.rangeAt wr.heap.size 0 C from KB.out.range)
       generalize inB x.p = IB at *
       clear hx hbl hpl
       go_wp2_with ((refine wpList_load_mid rfl 58 (.tmp 7) rfl wr.heap.size 0 rfl C _ HRG.out Try.underlying58 rfl HS1.out ?_))
       refine HPC.out.mono ?_
       rintro e w6b ⟨v6b, rfl, hl6b⟩
       have HL6b := Lib.hid (HL5b.out.step hl6b rfl)
       clear hl6b
       go_wp2
       go_roundg (n - (i + 1))
       case measure => omega
       case rel => exact ⟨i + 1, ys ++ IB, by omega, by go_num, Nat.le_refl _, HL6b, HYN⟩
     · have HY7 : Hid (ys = P6 ++ fm inB ins) := Lib.hid (by
         rw [HY.out, List.take_of_length_le (by have := HN.out; omega)])
       obtain ⟨P7, hP7⟩ : ∃ P7, P7 = P6 ++ fm inB ins := ⟨_, rfl⟩
       rw [← hP7] at HLB HY7
       have HPL7 : Hid (P7.length = P6.length + (fm inB ins).length) := Lib.hid (by rw [hP7, List.length_append])
       rw [← HPL7.out] at HBD
       have HL7 : Hid (LaidB W3 w.heap.size (.slice none 0 0) wr u5 P7) := Lib.hid (by rw [← HY7.out]; exact HL.out)
       have c2 := (HL7.out.keeps HK0.out).c2
       have HP8 := Lib.hid (putCount_any m (by omega) wr w.heap.size HL7.out.buf (by have := HBD.out; omega) (Nat.le_trans HS3.out HL7.out.size))
       clear hP7
       go_upto_region 11 with (go_at_call 32; refine HP8.out.mono ?_; rintro e w8 ⟨v8, rfl, hl8⟩; have HL8 := Lib.hid (HL7.out.step hl8 rfl); clear hl8)
       clear c2
       have c2 := (HL8.out.keeps HK0.out).c2
       go_upto_region 12 with fail
       clear c2
       obtain ⟨P8, hP8⟩ : ∃ P8, P8 = P7 ++ M.compB m := ⟨_, rfl⟩
       rw [← hP8] at HL8 HLB
       have HPL8 : Hid (P8.length = P7.length + (M.compB m).length) := Lib.hid (by rw [hP8, List.length_append])
       rw [← HPL8.out] at HBD
       clear hP8
       go_loopg [5, 9, 42] m (fun kx s5 s9 s42 wr => ∃ (i : Nat) (ys : List Nat), i ≤ m ∧ s42 = .int .i64 i ∧ m - i ≤ kx ∧ Hid (LaidB W3 w.heap.size (.slice none 0 0) wr s5 ys) ∧ Hid (ys = P8 ++ (outs.take i).flatMap outB))
       case atStart => exact ⟨0, P8, Nat.zero_le _, rfl, Nat.le_refl _, HL8, Lib.hid (by simp)⟩
       case round =>
         obtain ⟨j, zs, hj, rfl, hkj, HZ, HZE⟩ := hrel
         have HWZ := Lib.hid (HWB.out _ _ _ HZ.out)
         by_cases hlj : j < m
         · obtain ⟨p, hp⟩ : ∃ p, outs[j]? = some p := ⟨_, List.getElem?_eq_getElem (by have := HM.out; omega)⟩
           obtain ⟨ga, oa2, rfl, hga, ca, cb⟩ := (HT.out.below HWZ.out).outp j p hp
           have HOK := Lib.hid (HT.out.ook p (List.mem_of_getElem? hp))
           have HX1 := Lib.hid (fo_one outB hp)
           have HX2 := Lib.hid (fo_le outB outs (j + 1))
           have hyl : Hid (zs.length + (outB p).length ≤ 100000000) := Lib.hid (by
             have a := HZE.out; have b := HX1.out; have c := HX2.out; have d := HBD.out
             rw [b, List.length_append] at c
             rw [a, List.length_append]
             omega)
           have HYN : Hid ((zs ++ M.leB (uw p.coins) 8) ++ txt p.sc = P8 ++ (outs.take (j + 1)).flatMap outB) := Lib.hid (by rw [HX1.out, HZE.out]; unfold outB; simp only [List.append_assoc])
           have HOL : Hid ((outB p).length = 8 + (txt p.sc).length ∧ p.sc.length ≤ (txt p.sc).length) := Lib.hid
             ⟨by unfold outB; rw [List.length_append, M.leB_len], by unfold txt; rw [List.length_append]; omega⟩
           obtain ⟨W9, e9⟩ : ∃ W9, W9 = wr.alloc (.cells #[.int .i64 p.coins, .string (strB p.sc)] 49) := ⟨_, rfl⟩
           have b9 : Below wr.heap.size wr W9 := by rw [e9]; exact (Below.refl _ _).alloc (Nat.le_refl _) _
           have x9 : Bx2 W9 wr.heap.size (.int .i64 p.coins) (.string (strB p.sc)) := by rw [e9]; exact Bx2.new _ _ _ _
           have HL9 := Lib.hid (HZ.out.more b9)
           have hne9 : u5.ownBlock ≠ some wr.heap.size := fun e => by have := (HZ.out.buf.lt _ e).2; omega
           have HPA := Lib.hid (putL_any (uw p.coins) (uw_lt _) 8 (by omega) W9 w.heap.size HL9.out.buf (by have := hyl.out; omega) (Nat.le_trans HS3.out HL9.out.size))
           have HX9 := Lib.hid x9
           have HE9 := Lib.hid e9
           have d0 := x9.c0
           have HNE9 := Lib.hid hne9
           clear hp x9 e9 b9 hne9
           go_upto_region 14 with fail
           rw [← HE9.out]
           clear ca cb
           go_wp2_with fail
           rw [IntKind.wrap_u64, uw_cast]
           refine HPA.out.mono ?_
           rintro e w10 ⟨v10, rfl, hl10⟩
           have HL10 := Lib.hid (HL9.out.step hl10 (M.leB_len _ _))
           have x10 := HX9.out.keep (hl10.grown.block _ HX9.out.lt (fun e => HNE9.out e.symm))
           have d1 := x10.c1
           have HPT := Lib.hid (putText_any p.sc HOK.out.sc (by have := hyl.out; have := HOL.out; omega) w10 w.heap.size HL10.out.buf (by have := hyl.out; have := HOL.out; rw [List.length_append, M.leB_len]; omega) (Nat.le_trans HS3.out HL10.out.size))
           clear hl10 d0 x10
           go_wp2_with fail
           refine HPT.out.mono ?_
           rintro e w11 ⟨v11, rfl, hl11⟩
           have HL11 := Lib.hid (HL10.out.step hl11 rfl)
           rw [HYN.out] at HL11
           clear hl11 d1
           go_wp2
           go_roundg (m - (j + 1))
           case measure => omega
           case rel => exact ⟨j + 1, _, by omega, by go_num, Nat.le_refl _, HL11, Lib.hid rfl⟩
         · have HY9 : Hid (zs = P8 ++ outs.flatMap outB) := Lib.hid (by
             rw [HZE.out, List.take_of_length_le (by have := HM.out; omega)])
           obtain ⟨P9, hP9⟩ : ∃ P9, P9 = P8 ++ outs.flatMap outB := ⟨_, rfl⟩
           rw [← hP9] at HLB HY9
           have HPL9 : Hid (P9.length = P8.length + (outs.flatMap outB).length) := Lib.hid (by rw [hP9, List.length_append])
           rw [← HPL9.out] at HBD
           have HL9 : Hid (LaidB W3 w.heap.size (.slice none 0 0) wr u5 P9) := Lib.hid (by rw [← HY9.out]; exact HZ.out)
           clear hP9
           have HPW := Lib.hid (putWits_any wr w.heap.size ⟨ver, ins, ia, ic, outs, oa, oc, lock⟩ (HT.out.below HWZ.out) (Nat.le_trans HS3.out HL9.out.size) HL9.out.buf (by have := HBD.out; simp only; omega))
           have HPV : Hid (MTx.val ⟨ver, ins, ia, ic, outs, oa, oc, lock⟩ = .agg #[.int .i32 ver, .slice ia n ic, .slice oa m oc, .int .u32 (lock : Int)]) := Lib.hid (by rw [HN.out, HM.out]; rfl)
           rw [HPV.out] at HPW
           have K9 := HL9.out.keeps HK0.out
           have d0 := K9.c0
           have d1 := K9.c1
           have d2 := K9.c2
           have d3 := K9.c3
           clear K9
           go_wp2_with fail
           refine HPW.out.mono ?_
           rintro e w12 ⟨v12, rfl, hl12⟩
           have HL12 := Lib.hid (HL9.out.trans hl12)
           clear d0 d1 d2 d3 hl12
           obtain ⟨PA, hPA⟩ : ∃ PA, PA = P9 ++ fm witB ins := ⟨_, rfl⟩
           rw [← hPA] at HLB HL12
           have HPLA : Hid (PA.length = P9.length + (fm witB ins).length) := Lib.hid (by rw [hPA, List.length_append])
           clear hPA
           have c3 := (HL12.out.keeps HK0.out).c3
           have HPZ := Lib.hid (putL_any lock (by have := HLK.out; omega) 4 (by omega) w12 w.heap.size HL12.out.buf (by have := HBD.out; have := HPLA.out; omega) (Nat.le_trans HS3.out HL12.out.size))
           have hlk : (lock : Int) ≤ 18446744073709551615 := by have := HLK.out; omega
           go_wp2_with fail
           refine HPZ.out.mono ?_
           rintro e w13 ⟨v13, rfl, hl13⟩
           have HL13 := Lib.hid (HL12.out.step hl13 (M.leB_len _ _))
           rw [← HLB.out] at HL13
           clear c3 hl13
           go_wp2
           go_ret
           exact ⟨_, rfl, HL13.out.buf, HWB.out _ _ _ HL13.out⟩
end Go.Proofs.Ytkdkihacpjhgmaa
