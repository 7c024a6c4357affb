/- Walks: the reference's Same, of what is the same. -/
import Derived.Test.YtkdkihacpjhgmaaZ2
namespace Go.Proofs.Ytkdkihacpjhgmaa
set_option linter.unusedSimpArgs false
set_option linter.unusedVariables false
open Go.RowKit

theorem gu_id : Try.prog.eqGuardType Try.prog.depth 52 = false := by kernel_rfl
theorem gu_ro : Try.prog.eqGuardType Try.prog.depth 66 = false := by kernel_rfl
theorem size_id : (Try.prog.info? 52).map (·.size) = some 32 := by kernel_rfl
theorem fields_ro : ∃ f0 f1 : Field, Try.prog.fieldsOf 66 = #[f0, f1] ∧ (f0.name ≠ "_" ∧ f0.type = 2 ∧ f0.offset = 0) ∧ f1.name ≠ "_" ∧ f1.type = 9 ∧ f1.offset = 1 := by
  have h1 := Try.underlying66
  have h2 : Try.prog.underlying 66 = some (.struct (Try.prog.fieldsOf 66)) := by kernel_rfl
  rw [h1] at h2
  injection h2 with h2
  injection h2 with h2
  exact ⟨_, _, h2.symm, ⟨by decide, rfl, rfl⟩, by decide, rfl, rfl⟩
theorem stood_ro : Try.prog.stoodInHeld 66 = false := by kernel_rfl
theorem str_ro : Try.prog.underlying 66 = some (.struct (Try.prog.fieldsOf 66)) := by kernel_rfl
theorem plain_i : Try.prog.plainKey 2 = true := by kernel_rfl
theorem plain_s : Try.prog.plainKey 9 = true := by kernel_rfl
set_option maxRecDepth 100000 in
theorem ro_eql (c : Int) (s : ByteArray) (w : World) :
    (Op.equalIn 10000 66 (.agg #[.int .i64 c, .string s]) (.agg #[.int .i64 c, .string s])).run Try.prog w = .ok true w := by
  obtain ⟨f0, f1, hf, ⟨n0, t0, o0⟩, n1, t1, o1⟩ := fields_ro
  have p0 : ∀ w, (part f0.type #[.int .i64 c, .string s] f0.offset).run Try.prog w = .ok (.int .i64 c) w := fun w => by rw [t0, o0]; exact run_part_plain w plain_i rfl
  have p1 : ∀ w, (part f1.type #[.int .i64 c, .string s] f1.offset).run Try.prog w = .ok (.string s) w := fun w => by rw [t1, o1]; exact run_part_plain w plain_s rfl
  have q0 : ∀ w, (Op.equalIn 9999 f0.type (.int .i64 c) (.int .i64 c)).run Try.prog w = .ok true w := fun w => by
    rw [t0, show (9999 : Nat) = 9998 + 1 from rfl, run_equalIn_int w 9998 _ _ _ _ _ Try.underlying2]; simp
  have q1 : ∀ w, (Op.equalIn 9999 f1.type (.string s) (.string s)).run Try.prog w = .ok true w := fun w => by
    rw [t1, show (9999 : Nat) = 9998 + 1 from rfl, run_equalIn_string w 9998 _ _ _ Try.underlying9]; simp
  rw [show (10000 : Nat) = 9999 + 1 from rfl, run_equalIn_struct w 9999 _ _ _ str_ro stood_ro, hf]
  simp [Op.eqFields, n0, n1, Sem.run_bind, p0, p1, Result.andThen_ok, q0, q1]
theorem ro_neq (c : Int) (s : ByteArray) (w : World) : (binOp .neq 66 (.agg #[.int .i64 c, .string s]) (.agg #[.int .i64 c, .string s])).run Try.prog w = .ok (.bool false) w := by
  have h := ro_eql c s w
  rw [run_neq_struct, h]; rfl
theorem map_at {ins ins' : List MIn} (h : ins'.map (·.p) = ins.map (·.p)) {i : Nat} {x : MIn} (hx : ins[i]? = some x) : ∃ y : MIn, ins'[i]? = some y ∧ y.p = x.p := by
  have h1 : (ins'.map (·.p))[i]? = some x.p := by rw [h, List.getElem?_map, hx]; rfl
  rw [List.getElem?_map] at h1
  cases hy : ins'[i]? with
  | none => rw [hy] at h1; cases h1
  | some y => rw [hy] at h1; simp at h1; exact ⟨y, rfl, h1⟩

set_option maxHeartbeats 8000000 in
set_option maxRecDepth 100000 in
theorem same_any (w : World) (a b : MTx) (ha : TxAt w w.heap.size a) (hb : TxAt w w.heap.size b) (hab : b.p = a.p) :
    Calls Try.prog 15 #[a.val, b.val] w fun e w' => e = .returned (.bool true) ∧ Below w.heap.size w w' := by
  obtain ⟨ver, ins, ia, ic, outs, oa, oc, lock⟩ := a
  obtain ⟨ver', ins', ia', ic', outs', oa', oc', lock'⟩ := b
  have hv : ver' = ver := congrArg PTx.ver hab
  have hi : ins'.map (·.p) = ins.map (·.p) := congrArg PTx.ins hab
  have ho : outs' = outs := congrArg PTx.outs hab
  have hl : lock' = lock := congrArg PTx.lock hab
  subst hv; subst ho; subst hl
  have hil' : ins'.length = ins.length := by simpa using congrArg List.length hi
  have hil : (ins.length : Int) ≤ 9223372036854775807 := by have h1 := ha.il; have h2 := ha.ic; simp only at h1 h2; omega
  have hol : (outs'.length : Int) ≤ 9223372036854775807 := by have h1 := ha.ol; have h2 := ha.oc; simp only at h1 h2; omega
  have HT := Lib.hid ha
  have HU := Lib.hid hb
  have HMI := Lib.hid hi
  show Calls Try.prog 15 #[.agg #[.int .i32 ver', .slice ia ins.length ic, .slice oa outs'.length oc, .int .u32 (lock' : Int)], .agg #[.int .i32 ver', .slice ia' ins'.length ic', .slice oa' outs'.length oc', .int .u32 (lock' : Int)]] w _
  rw [hil']
  generalize outs' = outs at *
  generalize ver' = ver at *
  generalize lock' = lock at *
  obtain ⟨n, hn⟩ : ∃ n, n = ins.length := ⟨_, rfl⟩
  obtain ⟨m, hm⟩ : ∃ m, m = outs.length := ⟨_, rfl⟩
  rw [← hn] at hil ⊢
  rw [← hm] at hol ⊢
  have HN := Lib.hid hn
  have HM := Lib.hid hm
  obtain ⟨W3, e3⟩ : ∃ W3, W3 = w.alloc (.cells #[.int .i32 ver, .slice ia n ic, .slice oa m oc, .int .u32 (lock : Int)] 38) := ⟨_, rfl⟩
  have b3 : Below w.heap.size w W3 := by rw [e3]; exact (Below.refl _ _).alloc (Nat.le_refl _) _
  have k3 : Bx4 W3 w.heap.size (.int .i32 ver) (.slice ia n ic) (.slice oa m oc) (.int .u32 (lock : Int)) := by rw [e3]; exact Bx4.new _ _ _ _ _ _
  have s3 : W3.heap.size = w.heap.size + 1 := by rw [e3]; simp
  obtain ⟨W4, e4⟩ : ∃ W4, W4 = W3.alloc (.cells #[.int .i32 ver, .slice ia' n ic', .slice oa' m oc', .int .u32 (lock : Int)] 38) := ⟨_, rfl⟩
  have b4 : Below W3.heap.size W3 W4 := by rw [e4]; exact (Below.refl _ _).alloc (Nat.le_refl _) _
  have k4 : Bx4 W4 W3.heap.size (.int .i32 ver) (.slice ia' n ic') (.slice oa' m oc') (.int .u32 (lock : Int)) := by rw [e4]; exact Bx4.new _ _ _ _ _ _
  have s4 : W4.heap.size = w.heap.size + 2 := by rw [e4]; simp [s3]
  rw [s3] at k4
  have k5 := k3.keep (b4.block _ k3.lt)
  have HB4 : Hid (Below w.heap.size w W4) := Lib.hid (b3.trans (b4.mono b3.size))
  have HKA := Lib.hid k5
  have HKB := Lib.hid k4
  have HKW : Hid (∀ wx, Below W4.heap.size W4 wx → Bx4 wx w.heap.size (.int .i32 ver) (.slice ia n ic) (.slice oa m oc) (.int .u32 (lock : Int)) ∧ Bx4 wx (w.heap.size + 1) (.int .i32 ver) (.slice ia' n ic') (.slice oa' m oc') (.int .u32 (lock : Int)) ∧ Below w.heap.size w wx) :=
    Lib.hid (fun wx hx => ⟨HKA.out.keep (hx.block _ HKA.out.lt), HKB.out.keep (hx.block _ HKB.out.lt), HB4.out.trans (hx.mono HB4.out.size)⟩)
  have c0 := k5.c0
  have c1 := k5.c1
  have c2 := k5.c2
  have c3 := k5.c3
  have d0 := k4.c0
  have d1 := k4.c1
  have d2 := k4.c2
  have d3 := k4.c3
  have HE3 := Lib.hid e3
  have HE4 := Lib.hid e4
  have HS4 := Lib.hid s4
  have q1 : (ver != ver) = false := by simp
  have q2 : ((lock : Int) != (lock : Int)) = false := by simp
  have q3 : ((n : Int) != (n : Int)) = false := by simp
  have q4 : ((m : Int) != (m : Int)) = false := by simp
  clear e3 e4 hn hm ha hb hab hi hil' b3 k3 s3 b4 k4 k5 s4
  go_enter Try.func15, Try.ntmps15
  go_upto_region 1 with fail
  rw [← HE3.out, ← HE4.out]
  go_upto_region 3 with fail
  clear c0 c2 c3 d0 d1 d2 d3 q1 q2 q3 q4
  go_upto_region 4 with fail
  clear c1
  go_loopg [5, 6, 7, 8, 43] n (fun kx s5 s6 s7 s8 s43 wr => ∃ (i : Nat), i ≤ n ∧ s43 = .int .i64 i ∧ n - i ≤ kx ∧ Hid (Below W4.heap.size W4 wr))
  case atStart => exact ⟨0, Nat.zero_le _, rfl, Nat.le_refl _, Lib.hid (Below.refl _ _)⟩
  case round =>
    obtain ⟨i, hi, rfl, hk, HV⟩ := hrel
    by_cases hlt : i < n
    · have HW := Lib.hid (HKW.out _ HV.out).2.2
      obtain ⟨x, hx⟩ : ∃ x, ins[i]? = some x := ⟨_, List.getElem?_eq_getElem (by have := HN.out; omega)⟩
      obtain ⟨y, hy, hyx⟩ := map_at HMI.out hx
      have c1 := (HKW.out _ HV.out).1.c1
      obtain ⟨ga, offa, hgaa, hga, cxa⟩ := (HT.out.below HW.out).inp i x hx
      simp only at hgaa
      subst hgaa
      have HIAa := Lib.hid ((HT.out.below HW.out).iat x (List.mem_of_getElem? hx))
      have hlena : (x).cells.length = 36 := MIn.len HIAa.out.ok
      have HATa := Lib.hid (show (x).cells[32]? = _ ∧ (x).cells[33]? = _ ∧ (x).cells[34]? = _ ∧ (x).cells[35]? = _ from inC_at (out := (x).p.out) (sc := (x).p.sc) (seq := (x).p.seq) (W := .slice (x).wa (x).p.wit.length (x).wc) HIAa.out.ok.id)
      have HAIa := Lib.hid (show ∀ (j : Nat) (u : Value), (bys (x).p.id)[j]? = some u → (x).cells[j]? = some u from fun j u hu => inC_id j u hu)
      have honea : ∀ u ∈ (x).cells, u.oneCell' = true := inC_one
      obtain ⟨Ca, hCa⟩ : ∃ C, C = (x).cells := ⟨_, rfl⟩
      rw [← hCa] at HATa HAIa honea hlena cxa
      have HCa := Lib.hid hCa
      have HTHa := Lib.hid (cpr_there 65 wr Ca hlena)
      obtain ⟨Wa, ea, kba, ba, sa⟩ := cpr_pack 65 wr Ca hlena
      have KBa := Lib.hid kba
      have HBa := Lib.hid (HW.out.trans (ba.mono HW.out.size))
      have HDa := Lib.hid ba
      have HSa := Lib.hid sa
      have HCXa := Lib.hid cxa
      have HS1a := Lib.hid (show (Try.prog.info? 65).map (·.size) = some Ca.length by rw [hlena]; exact Try.sizeRIn)
      have HS2a := Lib.hid (show (Try.prog.info? 65).map (·.size) = some Ca.toArray.size by rw [List.size_toArray, hlena]; exact Try.sizeRIn)
      have HONEa := Lib.hid (all_oneCell_toArray honea)
      have HEa := Lib.hid ea
      clear honea hlena cxa kba ba sa ea hCa
      go_upto_region 7 with (first
        | (show wpList _ _ _ (Oper.mk (some 50) _ _ _ _ _ :: _) _ _; refine wpList_load_mid rfl 65 (.tmp 49) rfl ga (offa + i * 36) rfl Ca _ HCXa.out Try.underlying65 rfl HS1a.out ?_)
        | (show wpList _ _ _ (Oper.mk (some 6) _ _ _ _ _ :: _) _ _; refine wpList_of_wp rfl fun K hK => wp_alloc_arr 65 rfl ZIN.toArray Try.zeroRIn (hK _ _ ?_))
        | (show wpList _ _ _ (Oper.mk none _ _ _ _ _ :: _) _ _; refine wpList_store_mid rfl 65 (.tmp 6) (.tmp 50) rfl wr.heap.size 0 Ca.toArray rfl rfl HTHa.out HS2a.out HONEa.out ?_))
      rw [← HEa.out]
      clear c1
      have HVa := Lib.hid (HV.out.trans (HDa.out.mono HV.out.size))
      have d1 := (HKW.out _ HVa.out).2.1.c1
      obtain ⟨gb, offb, hgab, hgb, cxb⟩ := (HU.out.below HBa.out).inp i y hy
      simp only at hgab
      subst hgab
      have HIAb := Lib.hid ((HU.out.below HBa.out).iat y (List.mem_of_getElem? hy))
      have hlenb : (y).cells.length = 36 := MIn.len HIAb.out.ok
      have HATb := Lib.hid (show (y).cells[32]? = _ ∧ (y).cells[33]? = _ ∧ (y).cells[34]? = _ ∧ (y).cells[35]? = _ from inC_at (out := (y).p.out) (sc := (y).p.sc) (seq := (y).p.seq) (W := .slice (y).wa (y).p.wit.length (y).wc) HIAb.out.ok.id)
      have HAIb := Lib.hid (show ∀ (j : Nat) (u : Value), (bys (y).p.id)[j]? = some u → (y).cells[j]? = some u from fun j u hu => inC_id j u hu)
      have honeb : ∀ u ∈ (y).cells, u.oneCell' = true := inC_one
      obtain ⟨Cb, hCb⟩ : ∃ C, C = (y).cells := ⟨_, rfl⟩
      rw [← hCb] at HATb HAIb honeb hlenb cxb
      have HCb := Lib.hid hCb
      have HTHb := Lib.hid (cpr_there 65 Wa Cb hlenb)
      obtain ⟨Wb, eb, kbb, bb, sb⟩ := cpr_pack 65 Wa Cb hlenb
      have KBb := Lib.hid kbb
      have HBb := Lib.hid (HBa.out.trans (bb.mono HBa.out.size))
      have HDb := Lib.hid bb
      have HSb := Lib.hid sb
      have HCXb := Lib.hid cxb
      have HS1b := Lib.hid (show (Try.prog.info? 65).map (·.size) = some Cb.length by rw [hlenb]; exact Try.sizeRIn)
      have HS2b := Lib.hid (show (Try.prog.info? 65).map (·.size) = some Cb.toArray.size by rw [List.size_toArray, hlenb]; exact Try.sizeRIn)
      have HONEb := Lib.hid (all_oneCell_toArray honeb)
      have HEb := Lib.hid eb
      clear honeb hlenb cxb kbb bb sb eb hCb
      go_upto_region 8 with (first
        | (show wpList _ _ _ (Oper.mk (some 55) _ _ _ _ _ :: _) _ _; refine wpList_load_mid rfl 65 (.tmp 54) rfl gb (offb + i * 36) rfl Cb _ HCXb.out Try.underlying65 rfl HS1b.out ?_)
        | (show wpList _ _ _ (Oper.mk (some 7) _ _ _ _ _ :: _) _ _; refine wpList_of_wp rfl fun K hK => wp_alloc_arr 65 rfl ZIN.toArray Try.zeroRIn (hK _ _ ?_))
        | (show wpList _ _ _ (Oper.mk none _ _ _ _ _ :: _) _ _; refine wpList_store_mid rfl 65 (.tmp 7) (.tmp 55) rfl Wa.heap.size 0 Cb.toArray rfl rfl HTHb.out HS2b.out HONEb.out ?_))
      rw [← HEb.out]
      clear d1
      have HVb := Lib.hid (HVa.out.trans (HDb.out.mono HVa.out.size))
      obtain ⟨⟨id, out, sc, seq, wit⟩, wa, wc⟩ := x
      obtain ⟨yp, wb, wcb⟩ := y
      simp only at hyx
      subst hyx
      have HKA2 := Lib.hid (KBa.out.below HDb.out (by have := HSa.out; omega))
      have c32 := HKA2.out.cell 32 _ HATa.out.1
      have c33 := HKA2.out.cell 33 _ HATa.out.2.1
      have c34 := HKA2.out.cell 34 _ HATa.out.2.2.1
      have c35 := HKA2.out.cell 35 _ HATa.out.2.2.2
      have e32 := KBb.out.cell 32 _ HATb.out.1
      have e33 := KBb.out.cell 33 _ HATb.out.2.1
      have e34 := KBb.out.cell 34 _ HATb.out.2.2.1
      have e35 := KBb.out.cell 35 _ HATb.out.2.2.2
      have HRA : Hid (Wb.rangeAt wr.heap.size 0 (bys id)) := Lib.hid (fun j u hu => HKA2.out.range j u (HAIa.out j u hu))
      have HRB : Hid (Wb.rangeAt Wa.heap.size 0 (bys id)) := Lib.hid (fun j u hu => KBb.out.range j u (HAIb.out j u hu))
      have hidl : id.length = 32 := HIAa.out.ok.id
      have HSH := Lib.hid (show (Try.prog.info? 52).map (·.size) = some (bys id).length by rw [bys_len, hidl]; exact size_id)
      obtain ⟨i5, hi5, _⟩ := info_parts Try.info5
      have hEQ : ∀ wx, (Op.equalIn 10000 52 (.agg (bys id).toArray) (.agg (bys id).toArray)).run Try.prog wx = .ok true wx := fun wx => by
        have := run_eql_bys wx 52 5 32 .u8 i5 Try.underlying52 hi5 cells_u8 Try.underlying5 id id hidl hidl
        simpa using this
      have hgh := gu_id
      have q1 : ((out : Int) != (out : Int)) = false := by simp
      have q2 : ((strB sc).toList != (strB sc).toList) = false := by simp
      have q3 : ((seq : Int) != (seq : Int)) = false := by simp
      have q4 : ((wit.length : Int) != (wit.length : Int)) = false := by simp
      have hwl : (wit.length : Int) ≤ 9223372036854775807 := by have h1 : wit.length ≤ wc := HIAa.out.wl; have h2 : (wc : Int) ≤ 9223372036854775807 := HIAa.out.wc; omega
      have HWA := Lib.hid (HIAa.out.wit.below ((HDa.out.trans (HDb.out.mono HDa.out.size)).mono HW.out.size))
      have HWB := Lib.hid (HIAb.out.wit.below (HDb.out.mono HBa.out.size))
      simp only at HWA HWB
      simp only at c32 c33 c34 c35 e32 e33 e34 e35
      obtain ⟨v, hv⟩ : ∃ v, v = wit.length := ⟨_, rfl⟩
      rw [← hv] at hwl c35 e35 q4 HWA HWB
      have HVV := Lib.hid hv
      clear hx hy hi5 hv hidl
      generalize bys id = ID at *
      generalize strB sc = SC at *
      go_upto_region 10 with (first
        | (show wpList _ _ _ (Oper.mk (some 57) _ _ _ _ _ :: _) _ _; refine wpList_load_mid rfl 52 (.tmp 56) rfl wr.heap.size 0 rfl ID _ HRA.out Try.underlying52 rfl HSH.out ?_)
        | (show wpList _ _ _ (Oper.mk (some 59) _ _ _ _ _ :: _) _ _; refine wpList_load_mid rfl 52 (.tmp 58) rfl Wa.heap.size 0 rfl ID _ HRB.out Try.underlying52 rfl HSH.out ?_))
      clear c32 c33 c34 e32 e33 e34 q1 q2 q3 q4 hEQ hgh
      go_upto_region 11 with fail
      clear c35 e35
      go_loopg [8, 94] v (fun ky t8 t94 wy => ∃ (j : Nat), j ≤ v ∧ t94 = .int .i64 j ∧ v - j ≤ ky ∧ Hid (Below Wb.heap.size Wb wy))
      case atStart => exact ⟨0, Nat.zero_le _, rfl, Nat.le_refl _, Lib.hid (Below.refl _ _)⟩
      case round =>
        obtain ⟨j, hj, rfl, hkj, HY⟩ := hrel
        by_cases hlj : j < v
        · obtain ⟨p, hp⟩ : ∃ p, wit[j]? = some p := ⟨_, List.getElem?_eq_getElem (by have := HVV.out; omega)⟩
          have hyd := HY.out
          obtain ⟨ga2, oa2, hwa, hga2, cp⟩ := strs_at (HWA.out.below (hyd.mono HBb.out.size)) j p hp
          obtain ⟨gb2, ob2, hwb, hgb2, cq⟩ := strs_at (HWB.out.below (hyd.mono HBb.out.size)) j p hp
          subst hwa
          subst hwb
          have c35 := (HKA2.out.below hyd (by have := HSa.out; have := HSb.out; omega)).cell 35 _ HATa.out.2.2.2
          have e35 := (KBb.out.below hyd (by have := HSb.out; omega)).cell 35 _ HATb.out.2.2.2
          rw [← HVV.out] at c35 e35
          have q1 : ((strB p).toList != (strB p).toList) = false := by simp
          have HYN : Hid (∀ k, Below Wb.heap.size Wb (wr.drewN k)) := Lib.hid (fun k => Below.drewN' hyd k)
          clear hp hyd
          go_upto_region 13 with fail
          go_quiet (fail)
          go_wp2
          go_roundg (v - (j + 1))
          case measure => omega
          case rel => exact ⟨j + 1, by omega, by go_num, Nat.le_refl _, Lib.hid (HYN.out _)⟩
        · have HVY : Hid (Below W4.heap.size W4 wr) := Lib.hid (HVb.out.trans (HY.out.mono HVb.out.size))
          go_wp2
          go_roundg (n - (i + 1))
          case measure => omega
          case rel => exact ⟨i + 1, by omega, by go_num, Nat.le_refl _, HVY⟩
    · have c2 := (HKW.out _ HV.out).1.c2
      go_upto_region 18 with fail
      clear c2
      go_loopg [9, 113] m (fun kx s9 s113 wr => ∃ (j : Nat), j ≤ m ∧ s113 = .int .i64 j ∧ m - j ≤ kx ∧ Hid (Below W4.heap.size W4 wr))
      case atStart => exact ⟨0, Nat.zero_le _, rfl, Nat.le_refl _, HV⟩
      case round =>
        clear HV
        obtain ⟨j, hj, rfl, hkj, HV⟩ := hrel
        by_cases hlj : j < m
        · obtain ⟨p, hp⟩ : ∃ p, outs[j]? = some p := ⟨_, List.getElem?_eq_getElem (by have := HM.out; omega)⟩
          have hyd := HV.out
          obtain ⟨hA, hB, hC⟩ := HKW.out _ hyd
          obtain ⟨ga, oa2, hoa, hga, ca, cb⟩ := (HT.out.below hC).outp j p hp
          obtain ⟨gb, ob2, hob, hgb, ea, eb⟩ := (HU.out.below hC).outp j p hp
          simp only at hoa hob
          subst hoa
          subst hob
          have c2 := hA.c2
          have d2 := hB.c2
          have hgr := gu_ro
          have hEQ := fun wx => ro_neq p.coins (strB p.sc) wx
          have HYN : Hid (∀ k, Below W4.heap.size W4 (wr.drewN k)) := Lib.hid (fun k => Below.drewN' hyd k)
          clear hp hyd hA hB hC
          go_upto_region 20 with fail
          go_quiet (fail)
          go_wp2
          go_roundg (m - (j + 1))
          case measure => omega
          case rel => exact ⟨j + 1, by omega, by go_num, Nat.le_refl _, Lib.hid (HYN.out _)⟩
        · go_wp2
          go_ret
          exact ⟨rfl, (HKW.out _ HV.out).2.2⟩
end Go.Proofs.Ytkdkihacpjhgmaa
