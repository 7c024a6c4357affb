/- Walks: (tx.Tx).Check. -/
import Derived.Test.YtkdkihacpjhgmaaX3
namespace Go.Proofs.Ytkdkihacpjhgmaa
set_option linter.unusedSimpArgs false
set_option linter.unusedVariables false
open Go.RowKit

theorem chkL_app (a b : List TIn) (h : chkL a = 0) : chkL (a ++ b) = chkL b := by
  induction a with
  | nil => rfl
  | cons x r ih =>
    simp only [chkL] at h
    by_cases hx : chkI x = 0
    · rw [if_pos hx] at h
      simp only [List.cons_append, chkL, if_pos hx, ih h]
    · rw [if_neg hx] at h; exact absurd h hx
theorem chkL_one {l : List MIn} {i : Nat} {x : MIn} (hx : l[i]? = some x) (h : chkL ((l.take i).map (·.p)) = 0) (h0 : chkI x.p = 0) : chkL ((l.take (i + 1)).map (·.p)) = 0 := by
  rw [take_one hx, List.map_append, chkL_app _ _ h]
  simp [chkL, h0]
theorem chkL_bad {l : List MIn} {i : Nat} {x : MIn} (hx : l[i]? = some x) (h : chkL ((l.take i).map (·.p)) = 0) (h0 : chkI x.p ≠ 0) : chkL (l.map (·.p)) = chkI x.p := by
  obtain ⟨hi, rfl⟩ := List.getElem?_eq_some_iff.1 hx
  have e : l.map (·.p) = (l.take i).map (·.p) ++ (l[i].p :: (l.drop (i + 1)).map (·.p)) := by
    have e1 : l[i].p :: (l.drop (i + 1)).map (·.p) = (l.drop i).map (·.p) := by rw [List.drop_eq_getElem_cons hi, List.map_cons]
    rw [e1, ← List.map_append, List.take_append_drop]
  rw [e, chkL_app _ _ h]
  simp only [chkL, if_neg h0]
theorem chkI_le (x : TIn) : chkI x ≤ 6 := by
  unfold chkI
  split
  · omega
  · split
    · omega
    · split <;> omega

set_option maxHeartbeats 2000000 in
set_option maxRecDepth 100000 in
theorem check_any (w : World) (B : Nat) (t : MTx) (h : TxAt w B t) (hB : B ≤ w.heap.size) :
    Calls Try.prog 13 #[t.val] w fun e w' => e = .returned (.int .i64 (chk t.p : Int)) ∧ Below w.heap.size w w' := by
  obtain ⟨ver, ins, ia, ic, outs, oa, oc, lock⟩ := t
  have HRES : Hid (chk (MTx.p ⟨ver, ins, ia, ic, outs, oa, oc, lock⟩) = if ins.length = 0 ∨ outs.length = 0 then 1 else if 1024 < ins.length ∨ 1024 < outs.length then 3
    else if chkL (ins.map (·.p)) ≠ 0 then chkL (ins.map (·.p)) else if outs.any (fun o => decide (10000 < o.sc.length)) then 6 else 0) := Lib.hid (by unfold chk MTx.p; simp only [List.length_map])
  generalize chk (MTx.p ⟨ver, ins, ia, ic, outs, oa, oc, lock⟩) = R at *
  have hil : (ins.length : Int) ≤ 9223372036854775807 := by have h1 := h.il; have h2 := h.ic; simp only at h1 h2; omega
  have hol : (outs.length : Int) ≤ 9223372036854775807 := by have h1 := h.ol; have h2 := h.oc; simp only at h1 h2; omega
  have HT := Lib.hid (h.up hB)
  show Calls Try.prog 13 #[.agg #[.int .i32 ver, .slice ia ins.length ic, .slice oa outs.length oc, .int .u32 (lock : Int)]] w _
  obtain ⟨n, hn⟩ : ∃ n, n = ins.length := ⟨_, rfl⟩
  obtain ⟨m, hm⟩ : ∃ m, m = outs.length := ⟨_, rfl⟩
  rw [← hn] at hil HRES ⊢
  rw [← hm] at hol HRES ⊢
  have HN := Lib.hid hn
  have HM := Lib.hid hm
  obtain ⟨W3, e3⟩ : ∃ W3, W3 = w.alloc (.cells #[.int .i32 ver, .slice ia n ic, .slice oa m oc, .int .u32 (lock : Int)] 26) := ⟨_, rfl⟩
  have hB3 : Below w.heap.size w W3 := by rw [e3]; exact (Below.refl _ _).alloc (Nat.le_refl _) _
  have k0 : Bx4 W3 w.heap.size (.int .i32 ver) (.slice ia n ic) (.slice oa m oc) (.int .u32 (lock : Int)) := by rw [e3]; exact Bx4.new _ _ _ _ _ _
  have s3 : W3.heap.size = w.heap.size + 1 := by rw [e3]; simp
  have c1 := k0.c1
  have c2 := k0.c2
  have HK0 := Lib.hid k0
  have HB3 := Lib.hid hB3
  have HE3 := Lib.hid e3
  have HS3 := Lib.hid s3
  clear hB3 k0 e3 h hn hm s3
  by_cases h0 : n = 0 ∨ m = 0
  · have HR : Hid (R = 1) := Lib.hid (by rw [HRES.out, if_pos h0])
    clear HRES
    by_cases h1 : n = 0
    · subst h1
      go_enter Try.func13, Try.ntmps13
      go_upto_region 1 with fail
      rw [← HE3.out]
      go_wp2
      go_ret
      rw [HR.out]
      exact ⟨rfl, HB3.out⟩
    · have h2 : m = 0 := by omega
      subst h2
      have h3 : ((n : Int) == 0) = false := by simp; omega
      have h4 : ¬ (n : Int) = 0 := by omega
      clear h0 h1
      go_enter Try.func13, Try.ntmps13
      go_upto_region 1 with fail
      rw [← HE3.out]
      go_wp2
      go_ret
      rw [HR.out]
      exact ⟨rfl, HB3.out⟩
  · rw [if_neg h0] at HRES
    have hn3 : ((n : Int) == 0) = false := by simp; omega
    have hn4 : ¬ (n : Int) = 0 := by omega
    have hm3 : ((m : Int) == 0) = false := by simp; omega
    have hm4 : ¬ (m : Int) = 0 := by omega
    clear h0
    by_cases h1 : 1024 < n ∨ 1024 < m
    · have HR : Hid (R = 3) := Lib.hid (by rw [HRES.out, if_pos h1])
      clear HRES
      by_cases h2 : 1024 < n
      · have h2' : (1024 : Int) < (n : Int) := by omega
        clear h1 h2
        go_enter Try.func13, Try.ntmps13
        go_upto_region 1 with fail
        rw [← HE3.out]
        go_wp2
        go_ret
        rw [HR.out]
        exact ⟨rfl, HB3.out⟩
      · have h2' : ¬ (1024 : Int) < (n : Int) := by omega
        have h3' : (1024 : Int) < (m : Int) := by omega
        clear h1 h2
        go_enter Try.func13, Try.ntmps13
        go_upto_region 1 with fail
        rw [← HE3.out]
        go_wp2
        go_ret
        rw [HR.out]
        exact ⟨rfl, HB3.out⟩
    · rw [if_neg h1] at HRES
      have h2' : ¬ (1024 : Int) < (n : Int) := by omega
      have h3' : ¬ (1024 : Int) < (m : Int) := by omega
      clear h1
      go_enter Try.func13, Try.ntmps13
      go_upto_region 1 with fail
      rw [← HE3.out]
      go_upto_region 8 with fail
      clear c1 c2 hn3 hn4 hm3 hm4 h2' h3'
      go_loopg [4, 5, 29] n (fun kx s4 s5 s29 wr => ∃ (i : Nat), i ≤ n ∧ s29 = .int .i64 i ∧ n - i ≤ kx ∧ Hid (chkL ((ins.take i).map (·.p)) = 0) ∧ Hid (Below w.heap.size w wr) ∧ Hid (Below W3.heap.size W3 wr))
      case atStart => exact ⟨0, Nat.zero_le _, rfl, Nat.le_refl _, Lib.hid rfl, HB3, Lib.hid (Below.refl _ _)⟩
      case round =>
        obtain ⟨i, hi, rfl, hk, HQ, HW, HV⟩ := hrel
        by_cases hlt : i < n
        · obtain ⟨x, hx⟩ : ∃ x, ins[i]? = some x := ⟨_, List.getElem?_eq_getElem (by have := HN.out; omega)⟩
          have HX := Lib.hid hx
          obtain ⟨g, off, rfl, hg, cx⟩ := (HT.out.below HW.out).inp i x hx
          have HIA := Lib.hid ((HT.out.below HW.out).iat x (List.mem_of_getElem? hx))
          have hlen : x.cells.length = 36 := MIn.len HIA.out.ok
          have HAT := Lib.hid (show x.cells[32]? = _ ∧ x.cells[33]? = _ ∧ x.cells[34]? = _ ∧ x.cells[35]? = _ from inC_at (out := x.p.out) (sc := x.p.sc) (seq := x.p.seq) (W := .slice x.wa x.p.wit.length x.wc) HIA.out.ok.id)
          have HXC := Lib.hid (show ∃ C, C = x.cells from ⟨_, rfl⟩)
          have hone : ∀ u ∈ x.cells, u.oneCell' = true := inC_one
          obtain ⟨C, hC⟩ := HXC.out
          rw [← hC] at HAT hone hlen cx
          have HC := Lib.hid hC
          have HTH := Lib.hid (cp_there wr C hlen)
          obtain ⟨W5, e5, kb, b5, s5⟩ := cp_pack wr C hlen
          have KB := Lib.hid kb
          have HB5 := Lib.hid (HW.out.trans (b5.mono (by first | exact HW.out.size | exact HBW.out)))
          have HB15 := Lib.hid b5
          have HS5 := Lib.hid s5
          have HCX := Lib.hid cx
          have HS1 := Lib.hid (show (Try.prog.info? 58).map (·.size) = some C.length by rw [hlen]; exact Try.sizeIn)
          have HS2 := Lib.hid (show (Try.prog.info? 58).map (·.size) = some C.toArray.size by rw [List.size_toArray, hlen]; exact Try.sizeIn)
          have HONE := Lib.hid (all_oneCell_toArray hone)
          have HE5 := Lib.hid e5
          clear hone hlen cx kb b5 s5 e5 hC HXC
          go_upto_region 10 with (first
            | (refine wpList_load_mid rfl 58 (.tmp 31) rfl g (off + i * 36) rfl C _ HCX.out Try.underlying58 rfl HS1.out ?_)
            | (refine wpList_of_wp rfl fun K hK => wp_alloc_arr 58 rfl ZIN.toArray Try.zeroIn (hK _ _ ?_))
            | (refine wpList_store_mid rfl 58 (.tmp 4) (.tmp 32) rfl wr.heap.size 0 C.toArray rfl rfl HTH.out HS2.out HONE.out ?_))
          rw [← HE5.out]
          have hb15 : Below wr.heap.size wr W5 := by rw [HE5.out]; exact cp_below wr C
          have HCK := Lib.hid (inCheck_any W5 w.heap.size x (HIA.out.below (hb15.mono HW.out.size)) HB5.out.size)
          have HV5 : Hid (Below W3.heap.size W3 W5) := Lib.hid (HV.out.trans (hb15.mono HV.out.size))
          rw [← HC.out] at HCK
          have HRG := Lib.hid (show W5.rangeAt wr.heap.size 0 C from KB.out.range)
          clear hx hb15
          generalize hci : chkI x.p = ci at *
          have HCI := Lib.hid hci
          clear hci
          go_wp2_with ((refine wpList_load_mid rfl 58 (.tmp 4) rfl wr.heap.size 0 rfl C _ HRG.out Try.underlying58 rfl HS1.out ?_))
          refine HCK.out.mono ?_
          rintro e w6 ⟨rfl, hb6⟩
          have HB6 := Lib.hid (HB5.out.trans (hb6.mono HB5.out.size))
          have HV6 := Lib.hid (HV5.out.trans (hb6.mono HV5.out.size))
          clear hb6
          by_cases hz : ci = 0
          · subst hz
            have HQ2 := Lib.hid (chkL_one HX.out HQ.out HCI.out)
            go_wp2
            go_roundg (n - (i + 1))
            case measure => omega
            case rel => exact ⟨i + 1, by omega, by go_num, Nat.le_refl _, HQ2, HB6, HV6⟩
          · have hz' : ((ci : Int) != 0) = true := by simp [bne]; omega
            have hz2 : ((ci : Int) == 0) = false := by simp; omega
            have HR : Hid (R = ci) := Lib.hid (by
              have e := chkL_bad HX.out HQ.out (by rw [HCI.out]; exact hz)
              rw [HCI.out] at e
              rw [HRES.out, e, if_pos hz])
            clear hz
            go_wp2
            go_ret
            rw [HR.out]
            exact ⟨rfl, HB6.out⟩
        · have HQ3 : Hid (chkL (ins.map (·.p)) = 0) := Lib.hid (by
            have := HQ.out
            rwa [List.take_of_length_le (by have := HN.out; omega)] at this)
          have HRES2 : Hid (R = if outs.any (fun o => decide (10000 < o.sc.length)) then 6 else 0) := Lib.hid (by
            rw [HRES.out, HQ3.out]; rfl)
          have k1 := HK0.out.keep (HV.out.block _ (by have := HS3.out; omega))
          have c2 := k1.c2
          go_upto_region 15 with fail
          clear c2 k1
          go_loopg [7, 42] m (fun kx s7 s42 wr => ∃ (i : Nat), i ≤ m ∧ s42 = .int .i64 i ∧ m - i ≤ kx ∧ Hid ((outs.take i).any (fun o => decide (10000 < o.sc.length)) = false) ∧ Hid (Below w.heap.size w wr))
          case atStart => exact ⟨0, Nat.zero_le _, rfl, Nat.le_refl _, Lib.hid rfl, HW⟩
          case round =>
            obtain ⟨j, hj, rfl, hkj, HR, HY⟩ := hrel
            by_cases hlj : j < m
            · obtain ⟨p, hp⟩ : ∃ p, outs[j]? = some p := ⟨_, List.getElem?_eq_getElem (by have := HM.out; omega)⟩
              obtain ⟨ga, oa2, rfl, hga, ca, cb⟩ := (HT.out.below HY.out).outp j p hp
              have hps := strB_size p.sc
              have HP := Lib.hid hp
              have HB6 : Hid (Below w.heap.size w (wr.alloc (.cells #[.int .i64 p.coins, .string (strB p.sc)] 49))) := Lib.hid (HY.out.alloc HY.out.size _)
              clear hp
              by_cases hl : 10000 < p.sc.length
              · have hl' : (10000 : Int) < (p.sc.length : Int) := by omega
                have HR6 : Hid (R = 6) := Lib.hid (by
                  rw [HRES2.out, if_pos (List.any_eq_true.2 ⟨p, List.mem_of_getElem? HP.out, by simpa using hl⟩)])
                clear hl
                go_wp2
                go_ret
                rw [HR6.out]
                exact ⟨rfl, HB6.out⟩
              · have hl' : ¬ (10000 : Int) < (p.sc.length : Int) := by omega
                have HR2 : Hid ((outs.take (j + 1)).any (fun o => decide (10000 < o.sc.length)) = false) := Lib.hid (by
                  rw [take_one HP.out, List.any_append, HR.out]
                  simp
                  omega)
                clear hl
                go_wp2
                go_roundg (m - (j + 1))
                case measure => omega
                case rel => exact ⟨j + 1, by omega, by go_num, Nat.le_refl _, HR2, HB6⟩
            · go_wp2
              go_ret
              refine ⟨?_, HY.out⟩
              have e : outs.take j = outs := List.take_of_length_le (by have := HM.out; omega)
              rw [HRES2.out, ← e, HR.out]
              rfl
end Go.Proofs.Ytkdkihacpjhgmaa
