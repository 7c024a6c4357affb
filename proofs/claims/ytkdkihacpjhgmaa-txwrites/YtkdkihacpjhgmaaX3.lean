/- Walks: (tx.Tx).textBytes. -/
import Derived.Test.YtkdkihacpjhgmaaX2
namespace Go.Proofs.Ytkdkihacpjhgmaa
set_option linter.unusedSimpArgs false
set_option linter.unusedVariables false
open Go.RowKit

theorem sumL_app (a b : List (List Nat)) : sumL (a ++ b) = sumL a + sumL b := by
  induction a with
  | nil => simp [sumL]
  | cons x r ih => simp only [List.cons_append, sumL, ih]; omega
theorem sumI_app (a b : List TIn) : sumI (a ++ b) = sumI a + sumI b := by
  induction a with
  | nil => simp [sumI]
  | cons x r ih => simp only [List.cons_append, sumI, ih]; omega
theorem sumO_app (a b : List TOut) : sumO (a ++ b) = sumO a + sumO b := by
  induction a with
  | nil => simp [sumO]
  | cons x r ih => simp only [List.cons_append, sumO, ih]; omega
theorem take_one {α : Type} {l : List α} {i : Nat} {x : α} (h : l[i]? = some x) : l.take (i + 1) = l.take i ++ [x] := by
  obtain ⟨hi, rfl⟩ := List.getElem?_eq_some_iff.1 h
  exact List.take_succ_eq_append_getElem hi
theorem sumL_one {l : List (List Nat)} {i : Nat} {p : List Nat} (h : l[i]? = some p) : sumL (l.take (i + 1)) = sumL (l.take i) + p.length := by
  rw [take_one h, sumL_app]; simp [sumL]
theorem sumL_le (l : List (List Nat)) (i : Nat) : sumL (l.take i) ≤ sumL l := by
  conv => rhs; rw [← List.take_append_drop i l, sumL_app]
  omega
theorem sumI_one {l : List MIn} {i : Nat} {x : MIn} (h : l[i]? = some x) : sumI ((l.take (i + 1)).map (·.p)) = sumI ((l.take i).map (·.p)) + (x.p.sc.length + sumL x.p.wit) := by
  rw [take_one h, List.map_append, sumI_app]; simp [sumI]
theorem sumI_le (l : List MIn) (i : Nat) : sumI ((l.take i).map (·.p)) ≤ sumI (l.map (·.p)) := by
  conv => rhs; rw [← List.take_append_drop i l, List.map_append, sumI_app]
  omega
theorem sumO_one {l : List TOut} {i : Nat} {x : TOut} (h : l[i]? = some x) : sumO (l.take (i + 1)) = sumO (l.take i) + x.sc.length := by
  rw [take_one h, sumO_app]; simp [sumO]
theorem sumO_le (l : List TOut) (i : Nat) : sumO (l.take i) ≤ sumO l := by
  conv => rhs; rw [← List.take_append_drop i l, sumO_app]
  omega

set_option maxHeartbeats 2000000 in
set_option maxRecDepth 100000 in
theorem textBytes_any (w : World) (B : Nat) (t : MTx) (h : TxAt w B t) (hB : B ≤ w.heap.size) (hN : (textN t.p : Int) ≤ 2000000000) :
    Calls Try.prog 20 #[t.val] w fun e w' => e = .returned (.int .i64 (textN t.p : Int)) ∧ Below w.heap.size w w' := by
  obtain ⟨ver, ins, ia, ic, outs, oa, oc, lock⟩ := t
  have HRES : Hid (textN (MTx.p ⟨ver, ins, ia, ic, outs, oa, oc, lock⟩) = sumI (ins.map (·.p)) + sumO outs) := Lib.hid rfl
  generalize textN (MTx.p ⟨ver, ins, ia, ic, outs, oa, oc, lock⟩) = R at *
  have hil : (ins.length : Int) ≤ 9223372036854775807 := by have h1 := h.il; have h2 := h.ic; simp only at h1 h2; omega
  have hol : (outs.length : Int) ≤ 9223372036854775807 := by have h1 := h.ol; have h2 := h.oc; simp only at h1 h2; omega
  have HT := Lib.hid (h.up hB)
  show Calls Try.prog 20 #[.agg #[.int .i32 ver, .slice ia ins.length ic, .slice oa outs.length oc, .int .u32 (lock : Int)]] w _
  obtain ⟨n, hn⟩ : ∃ n, n = ins.length := ⟨_, rfl⟩
  obtain ⟨m, hm⟩ : ∃ m, m = outs.length := ⟨_, rfl⟩
  rw [← hn] at hil ⊢
  rw [← hm] at hol ⊢
  have HN := Lib.hid hn
  have HM := Lib.hid hm
  obtain ⟨W3, e3⟩ : ∃ W3, W3 = w.alloc (.cells #[.int .i32 ver, .slice ia n ic, .slice oa m oc, .int .u32 (lock : Int)] 26) := ⟨_, rfl⟩
  have hB3 : Below w.heap.size w W3 := by rw [e3]; exact (Below.refl _ _).alloc (Nat.le_refl _) _
  have k0 : Bx4 W3 w.heap.size (.int .i32 ver) (.slice ia n ic) (.slice oa m oc) (.int .u32 (lock : Int)) := by rw [e3]; exact Bx4.new _ _ _ _ _ _
  have s3 : W3.heap.size = w.heap.size + 1 := by rw [e3]; simp
  have c1 := k0.c1
  have HK0 := Lib.hid k0
  have HB3 := Lib.hid hB3
  have HE3 := Lib.hid e3
  have HS3 := Lib.hid s3
  clear hB3 k0 e3 h hn hm s3
  go_enter Try.func20, Try.ntmps20
  go_upto_region 1 with fail
  rw [← HE3.out]
  go_upto_region 3 with fail
  clear c1
  go_loopg [3, 5, 7, 13] n (fun kx s3 s5 s7 s13 wr => ∃ (i q : Nat), i ≤ n ∧ s13 = .int .i64 i ∧ n - i ≤ kx ∧ s3 = .int .i64 q ∧ Hid (q = sumI ((ins.take i).map (·.p))) ∧ Hid (Below w.heap.size w wr) ∧ Hid (Below W3.heap.size W3 wr))
  case atStart => exact ⟨0, 0, Nat.zero_le _, rfl, Nat.le_refl _, rfl, Lib.hid rfl, HB3, Lib.hid (Below.refl _ _)⟩
  case round =>
    obtain ⟨i, q, hi, rfl, hk, rfl, HQ, HW, HV⟩ := hrel
    by_cases hlt : i < n
    · obtain ⟨x, hx⟩ : ∃ x, ins[i]? = some x := ⟨_, List.getElem?_eq_getElem (by have := HN.out; omega)⟩
      have HX := Lib.hid hx
      have HQ1 := Lib.hid (sumI_one hx)
      have HQ2 := Lib.hid (sumI_le ins (i + 1))
      obtain ⟨g, off, rfl, hg, cx⟩ := (HT.out.below HW.out).inp i x hx
      have HIA := Lib.hid ((HT.out.below HW.out).iat x (List.mem_of_getElem? hx))
      have hlen : x.cells.length = 36 := MIn.len HIA.out.ok
      have HAT := Lib.hid (show x.cells[32]? = _ ∧ x.cells[33]? = _ ∧ x.cells[34]? = _ ∧ x.cells[35]? = _ from inC_at (out := x.p.out) (sc := x.p.sc) (seq := x.p.seq) (W := .slice x.wa x.p.wit.length x.wc) HIA.out.ok.id)
      have HXC := Lib.hid (show ∃ C, C = x.cells from ⟨_, rfl⟩)
      have hone : ∀ u ∈ x.cells, u.oneCell' = true := inC_one
      obtain ⟨C, hC⟩ := HXC.out
      rw [← hC] at HAT hone hlen cx
      have HC := Lib.hid hC
      have HTH := Lib.hid (cp_there wr C hlen)
      obtain ⟨W5, e5, kb, b5, s5⟩ := cp_pack wr C hlen
      have KB := Lib.hid kb
      have HB5 := Lib.hid (HW.out.trans (b5.mono (by first | exact HW.out.size | exact HBW.out)))
      have HB15 := Lib.hid b5
      have HS5 := Lib.hid s5
      have HCX := Lib.hid cx
      have HS1 := Lib.hid (show (Try.prog.info? 58).map (·.size) = some C.length by rw [hlen]; exact Try.sizeIn)
      have HS2 := Lib.hid (show (Try.prog.info? 58).map (·.size) = some C.toArray.size by rw [List.size_toArray, hlen]; exact Try.sizeIn)
      have HONE := Lib.hid (all_oneCell_toArray hone)
      have HE5 := Lib.hid e5
      clear hone hlen cx kb b5 s5 e5 hC HXC
      go_upto_region 5 with (first
        | (refine wpList_load_mid rfl 58 (.tmp 15) rfl g (off + i * 36) rfl C _ HCX.out Try.underlying58 rfl HS1.out ?_)
        | (refine wpList_of_wp rfl fun K hK => wp_alloc_arr 58 rfl ZIN.toArray Try.zeroIn (hK _ _ ?_))
        | (refine wpList_store_mid rfl 58 (.tmp 5) (.tmp 16) rfl wr.heap.size 0 C.toArray rfl rfl HTH.out HS2.out HONE.out ?_))
      rw [← HE5.out]
      have HV5 : Hid (Below W3.heap.size W3 W5) := Lib.hid (HV.out.trans (by
        have h1 : Below wr.heap.size wr W5 := by rw [HE5.out]; exact cp_below wr C
        exact h1.mono HV.out.size))
      have c33 := KB.out.cell 33 _ HAT.out.2.1
      have c35 := KB.out.cell 35 _ HAT.out.2.2.2
      have hwl : (x.p.wit.length : Int) ≤ 9223372036854775807 := by have h1 := HIA.out.wl; have h2 := HIA.out.wc; omega
      have hz := strB_size x.p.sc
      obtain ⟨l, hl⟩ : ∃ l, l = x.p.sc.length := ⟨_, rfl⟩
      rw [← hl] at hz
      have hq1 : q + l ≤ 2000000000 := by have a := HQ1.out; have b := HQ2.out; have c := HRES.out; have d := HQ.out; omega
      have hq2 : (q : Int) + (l : Int) ≤ 2000000000 := by omega
      have HL := Lib.hid hl
      have HWT := Lib.hid ((HIA.out.wit.below ((show Below wr.heap.size wr W5 by rw [HE5.out]; exact cp_below wr C).mono HW.out.size)))
      obtain ⟨v, hv⟩ : ∃ v, v = x.p.wit.length := ⟨_, rfl⟩
      rw [← hv] at hwl c35 HWT
      have HVV := Lib.hid hv
      obtain ⟨Aw, hAw⟩ : ∃ Aw, Aw = x.wa := ⟨_, rfl⟩
      rw [← hAw] at c35 HWT
      have HS := Lib.hid (fun j => sumL_le x.p.wit j)
      clear hx hl hv hAw
      go_upto_region 7 with fail
      clear c33 c35
      go_loopg [3, 7, 25] v (fun ky t3 t7 t25 wy => ∃ (j r : Nat), j ≤ v ∧ t25 = .int .i64 j ∧ v - j ≤ ky ∧ t3 = .int .i64 r ∧ Hid (r = q + l + sumL (x.p.wit.take j)) ∧ wy = W5)
      case atStart => exact ⟨0, q + l, Nat.zero_le _, rfl, Nat.le_refl _, by go_num, Lib.hid (by simp [sumL]), rfl⟩
      case round =>
        obtain ⟨j, r, hj, rfl, hkj, rfl, HR, rfl⟩ := hrel
        by_cases hlj : j < v
        · obtain ⟨p, hp⟩ : ∃ p, x.p.wit[j]? = some p := ⟨_, List.getElem?_eq_getElem (by have := HVV.out; omega)⟩
          obtain ⟨ga, oa2, rfl, hga, cp⟩ := strs_at HWT.out j p hp
          have hps := strB_size p
          have hpo := sumL_one hp
          have hr1 : (r : Int) + (p.length : Int) ≤ 2000000000 := by
            have a := HQ1.out; have b := HQ2.out; have c := HRES.out; have d := HQ.out; have e := HS.out (j + 1); have f := HL.out; have g := HR.out; omega
          have HR2 : Hid (r + p.length = q + l + sumL (x.p.wit.take (j + 1))) := Lib.hid (by have := HR.out; omega)
          clear hp hpo
          go_wp2
          go_roundg (v - (j + 1))
          case measure => omega
          case rel => exact ⟨j + 1, r + p.length, by omega, by go_num, Nat.le_refl _, by go_num, HR2, rfl⟩
        · have HQN : Hid (r = sumI ((ins.take (i + 1)).map (·.p))) := Lib.hid (by
            have e : x.p.wit.take j = x.p.wit := List.take_of_length_le (by have := HVV.out; omega)
            have a := HQ1.out; have d := HQ.out; have f := HL.out; have g := HR.out
            rw [e] at g
            omega)
          go_wp2
          go_roundg (n - (i + 1))
          case measure => omega
          case rel => exact ⟨i + 1, r, by omega, by go_num, Nat.le_refl _, rfl, HQN, HB5, HV5⟩
    · have hin : i = n := by omega
      have HQ3 : Hid (q = sumI (ins.map (·.p))) := Lib.hid (by
        rw [HQ.out, List.take_of_length_le (by have := HN.out; omega)])
      have k1 := HK0.out.keep (HV.out.block _ (by have := HS3.out; omega))
      have c2 := k1.c2
      go_upto_region 13 with fail
      clear c2 k1
      go_loopg [3, 9, 38] m (fun kx s3 s9 s38 wr => ∃ (i r : Nat), i ≤ m ∧ s38 = .int .i64 i ∧ m - i ≤ kx ∧ s3 = .int .i64 r ∧ Hid (r = q + sumO (outs.take i)) ∧ Hid (Below w.heap.size w wr))
      case atStart => exact ⟨0, q, Nat.zero_le _, rfl, Nat.le_refl _, rfl, Lib.hid (by simp [sumO]), HW⟩
      case round =>
        obtain ⟨j, r, hj, rfl, hkj, rfl, HR, HY⟩ := hrel
        by_cases hlj : j < m
        · obtain ⟨p, hp⟩ : ∃ p, outs[j]? = some p := ⟨_, List.getElem?_eq_getElem (by have := HM.out; omega)⟩
          obtain ⟨ga, oa2, rfl, hga, ca, cb⟩ := (HT.out.below HY.out).outp j p hp
          have hps := strB_size p.sc
          have hpo := sumO_one hp
          have hr1 : (r : Int) + (p.sc.length : Int) ≤ 2000000000 := by
            have c := HRES.out; have d := HQ3.out; have e := sumO_le outs (j + 1); have g := HR.out; omega
          have HR2 : Hid (r + p.sc.length = q + sumO (outs.take (j + 1))) := Lib.hid (by have := HR.out; omega)
          have HB6 : Hid (Below w.heap.size w (wr.alloc (.cells #[.int .i64 p.coins, .string (strB p.sc)] 49))) := Lib.hid (HY.out.alloc HY.out.size _)
          clear hp hpo
          go_wp2
          go_roundg (m - (j + 1))
          case measure => omega
          case rel => exact ⟨j + 1, r + p.sc.length, by omega, by go_num, Nat.le_refl _, by go_num, HR2, HB6⟩
        · have HE : Hid (R = r) := Lib.hid (by
            have e : outs.take j = outs := List.take_of_length_le (by have := HM.out; omega)
            have c := HRES.out; have d := HQ3.out; have g := HR.out
            rw [e] at g
            omega)
          go_wp2
          go_ret
          rw [HE.out]
          exact ⟨rfl, HY.out⟩
end Go.Proofs.Ytkdkihacpjhgmaa
