/- Walks: the reference's Encode. -/
import Derived.Test.YtkdkihacpjhgmaaRL
namespace Go.Proofs.Ytkdkihacpjhgmaa
set_option linter.unusedSimpArgs false
set_option linter.unusedVariables false
open Go.RowKit

theorem Bx4.rgR {w : World} {g : Nat} {a b c d : Value} (h : Bx4 w g a b c d) : w.rangeAt g 0 [a, b, c, d] := fun j u hu => by
  rw [Nat.zero_add]
  match j, hu with
  | 0, hu => simp at hu; subst hu; exact h.c0
  | 1, hu => simp at hu; subst hu; exact h.c1
  | 2, hu => simp at hu; subst hu; exact h.c2
  | 3, hu => simp at hu; subst hu; exact h.c3
theorem txt_geR (s : List Nat) : s.length ≤ (txt s).length := by unfold txt; rw [List.length_append]; omega
theorem sumL_leR : ∀ l : List (List Nat), sumL l ≤ (l.flatMap txt).length
  | [] => by simp [sumL]
  | p :: r => by
    have := sumL_leR r
    have h1 := txt_geR p
    simp only [sumL, List.flatMap_cons, List.length_append]
    omega
theorem inB_geR (x : TIn) : x.sc.length ≤ (inB x).length := by
  have := txt_geR x.sc
  unfold inB
  simp only [List.length_append]
  omega
theorem sumI_leR : ∀ l : List TIn, sumI l ≤ (l.flatMap inB).length + (l.flatMap witB).length
  | [] => by simp [sumI]
  | x :: r => by
    have := sumI_leR r
    have h1 := inB_geR x
    have h2 := sumL_leR x.wit
    have h3 : (witB x).length = (M.compB x.wit.length).length + (x.wit.flatMap txt).length := by unfold witB; rw [List.length_append]
    simp only [sumI, List.flatMap_cons, List.length_append]
    omega
theorem sumI_le0R : ∀ l : List TIn, (∀ x ∈ l, x.wit.length = 0) → sumI l ≤ (l.flatMap inB).length
  | [], _ => by simp [sumI]
  | x :: r, h => by
    have := sumI_le0R r (fun y hy => h y (by simp [hy]))
    have h1 := inB_geR x
    have h2 : x.wit = [] := List.eq_nil_of_length_eq_zero (h x (by simp))
    simp only [sumI, List.flatMap_cons, List.length_append, h2, sumL]
    omega
theorem sumO_leR : ∀ l : List TOut, sumO l ≤ (l.flatMap outB).length
  | [] => by simp [sumO]
  | x :: r => by
    have := sumO_leR r
    have h1 := txt_geR x.sc
    have h2 : (outB x).length = 8 + (txt x.sc).length := by unfold outB; rw [List.length_append, M.leB_len]
    simp only [sumO, List.flatMap_cons, List.length_append]
    omega
theorem textN_le (t : PTx) : textN t ≤ (layB t (hasW t)).length := by
  have h1 := sumO_leR t.outs
  unfold textN
  cases hh : hasW t with
  | true =>
    have h2 := sumI_leR t.ins
    unfold layB
    simp only [List.length_append, if_true]
    omega
  | false =>
    have h2 := sumI_le0R t.ins (fun x hx => by
      unfold hasW at hh
      have := List.any_eq_false.1 hh x hx
      simp at this
      simp [this])
    unfold layB
    simp only [List.length_append]
    omega
theorem encE_ref (t : PTx) : encE t = if chk t ≠ 0 then chk t else if 65536 < (layB t (hasW t)).length then 6 else 0 := by
  have := textN_le t
  unfold encE
  by_cases h1 : chk t ≠ 0
  · rw [if_pos h1, if_pos h1]
  · rw [if_neg h1, if_neg h1]
    by_cases h2 : 65536 < textN t
    · rw [if_pos h2, if_pos (by omega)]
    · rw [if_neg h2]
theorem chkI_3 {x : TIn} (h : 100 < x.wit.length) : chkI x = 3 := by unfold chkI; rw [if_pos h]
theorem chkI_6 {x : TIn} (h : ¬ 100 < x.wit.length) (h2 : 10000 < x.sc.length) : chkI x = 6 := by unfold chkI; rw [if_neg h, if_pos h2]
theorem chkI_any {x : TIn} (h : ¬ 100 < x.wit.length) (h2 : ¬ 10000 < x.sc.length) : chkI x = if x.wit.any (fun p => decide (10000 < p.length)) then 6 else 0 := by unfold chkI; rw [if_neg h, if_neg h2]

theorem reflay_any (b : Bool) (w : World) (t : MTx) (h : TxAt w w.heap.size t) (hck : chk t.p = 0) :
    Calls Try.prog 23 #[t.val, .bool b] w fun e w' => ∃ v', e = .returned v' ∧ Buf w' w.heap.size v' (layB t.p b).length (bys (layB t.p b)) ∧ Below w.heap.size w w' := by
  cases b with
  | false => exact reflayF_any w t h hck
  | true => exact reflayT_any w t h hck

/-- What Encode tells. -/
def EncP (w : World) (p : PTx) (R : Nat) (e : Ending) (w' : World) : Prop :=
  ∃ v', e = .returned (.tuple #[v', .int .i64 (R : Int)]) ∧ (R = 0 → Buf w' w.heap.size v' (layB p (hasW p)).length (bys (layB p (hasW p)))) ∧ (R ≠ 0 → v' = .slice none 0 0) ∧ Below w.heap.size w w'
theorem EncP.bad {w w' : World} {p : PTx} {R k : Nat} (h : R = k) (hk : k ≠ 0) (hb : Below w.heap.size w w') : EncP w p R (.returned (.tuple #[.slice none 0 0, .int .i64 (k : Int)])) w' :=
  ⟨_, by rw [h], fun h0 => absurd h0 (by omega), fun _ => rfl, hb⟩

set_option maxHeartbeats 8000000 in
set_option maxRecDepth 100000 in
theorem refenc_any (w : World) (t : MTx) (h : TxAt w w.heap.size t) :
    Calls Try.prog 11 #[t.val] w (EncP w t.p (encE t.p)) := by
  obtain ⟨P, hP⟩ : ∃ P, P = t.p := ⟨_, rfl⟩
  have HENC : Hid (encE t.p = if chk t.p ≠ 0 then chk t.p else if 65536 < (layB t.p (hasW t.p)).length then 6 else 0) := Lib.hid (encE_ref t.p)
  have HLA : Hid (∀ b wx, Below w.heap.size w wx → chk t.p = 0 → Calls Try.prog 23 #[t.val, .bool b] wx fun e w' => ∃ v', e = .returned v' ∧ Buf w' wx.heap.size v' (layB t.p b).length (bys (layB t.p b)) ∧ Below wx.heap.size wx w') := Lib.hid (fun b wx hx hc => reflay_any b wx t ((h.below hx).up hx.size) hc)
  have HHA : Hid (∀ wx, Below w.heap.size w wx → Calls Try.prog 24 #[t.val] wx fun e w' => e = .returned (.bool (hasW t.p)) ∧ Below wx.heap.size wx w') := Lib.hid (fun wx hx => refhas_any wx t ((h.below hx).up hx.size))
  obtain ⟨ver, ins, ia, ic, outs, oa, oc, lock⟩ := t
  have HRES : Hid (chk (MTx.p ⟨ver, ins, ia, ic, outs, oa, oc, lock⟩) = if ins.length = 0 ∨ outs.length = 0 then 1 else if 1024 < ins.length ∨ 1024 < outs.length then 3
    else if chkL (ins.map (·.p)) ≠ 0 then chkL (ins.map (·.p)) else if outs.any (fun o => decide (10000 < o.sc.length)) then 6 else 0) := Lib.hid (by unfold chk MTx.p; simp only [List.length_map])
  generalize chk (MTx.p ⟨ver, ins, ia, ic, outs, oa, oc, lock⟩) = CK at *
  generalize encE (MTx.p ⟨ver, ins, ia, ic, outs, oa, oc, lock⟩) = R at *
  have hil : (ins.length : Int) ≤ 9223372036854775807 := by have h1 := h.il; have h2 := h.ic; simp only at h1 h2; omega
  have hol : (outs.length : Int) ≤ 9223372036854775807 := by have h1 := h.ol; have h2 := h.oc; simp only at h1 h2; omega
  have HT := Lib.hid h
  have hval : MTx.val ⟨ver, ins, ia, ic, outs, oa, oc, lock⟩ = .agg #[.int .i32 ver, .slice ia ins.length ic, .slice oa outs.length oc, .int .u32 (lock : Int)] := rfl
  rw [← hP] at HENC HLA HHA ⊢
  rw [hval] at HLA HHA ⊢
  obtain ⟨n, hn⟩ : ∃ n, n = ins.length := ⟨_, rfl⟩
  obtain ⟨m, hm⟩ : ∃ m, m = outs.length := ⟨_, rfl⟩
  rw [← hn] at hil HRES HLA HHA ⊢
  rw [← hm] at hol HRES HLA HHA ⊢
  have HN := Lib.hid hn
  have HM := Lib.hid hm
  obtain ⟨TC, hTC⟩ : ∃ TC : List Value, TC = [.int .i32 ver, .slice ia n ic, .slice oa m oc, .int .u32 (lock : Int)] := ⟨_, rfl⟩
  obtain ⟨W3, e3⟩ : ∃ W3, W3 = w.alloc (.cells #[.int .i32 ver, .slice ia n ic, .slice oa m oc, .int .u32 (lock : Int)] 38) := ⟨_, rfl⟩
  have hB3 : Below w.heap.size w W3 := by rw [e3]; exact (Below.refl _ _).alloc (Nat.le_refl _) _
  have k0 : Bx4 W3 w.heap.size (.int .i32 ver) (.slice ia n ic) (.slice oa m oc) (.int .u32 (lock : Int)) := by rw [e3]; exact Bx4.new _ _ _ _ _ _
  have HKW : Hid (∀ wx, Below W3.heap.size W3 wx → Bx4 wx w.heap.size (.int .i32 ver) (.slice ia n ic) (.slice oa m oc) (.int .u32 (lock : Int)) ∧ Below w.heap.size w wx ∧ wx.rangeAt w.heap.size 0 TC) := Lib.hid (fun wx hx => by
    have k := k0.keep (hx.block _ k0.lt)
    exact ⟨k, hB3.trans (hx.mono hB3.size), by rw [hTC]; exact k.rgR⟩)
  have HSZ := Lib.hid (show (Try.prog.info? 38).map (·.size) = some TC.length by rw [hTC]; kernel_rfl)
  have hTA : Value.agg #[.int .i32 ver, .slice ia n ic, .slice oa m oc, .int .u32 (lock : Int)] = .agg TC.toArray := by rw [hTC]
  have HLB : Hid (∀ b wx, Below w.heap.size w wx → CK = 0 → Calls Try.prog 23 #[.agg TC.toArray, .bool b] wx fun e w' => ∃ v', e = .returned v' ∧ Buf w' wx.heap.size v' (layB P b).length (bys (layB P b)) ∧ Below wx.heap.size wx w') := Lib.hid (by rw [← hTA]; exact HLA.out)
  have HHB : Hid (∀ wx, Below w.heap.size w wx → Calls Try.prog 24 #[.agg TC.toArray] wx fun e w' => e = .returned (.bool (hasW P)) ∧ Below wx.heap.size wx w') := Lib.hid (by rw [← hTA]; exact HHA.out)
  have c1 := k0.c1
  have c2 := k0.c2
  have HB3 := Lib.hid hB3
  have HE3 := Lib.hid e3
  clear hB3 k0 e3 h hn hm hP hval hTC hTA HLA HHA
  by_cases h0 : n = 0 ∨ m = 0
  · have HR : Hid (R = 1) := Lib.hid (by rw [HENC.out, HRES.out, if_pos h0]; rfl)
    clear HRES HENC
    by_cases h1 : n = 0
    · subst h1
      go_enter Try.func11, Try.ntmps11
      go_upto_region 1 with fail
      rw [← HE3.out]
      go_wp2
      go_ret2
      exact EncP.bad HR.out (by decide) HB3.out
    · have h2 : m = 0 := by omega
      subst h2
      have h3 : ((n : Int) == 0) = false := by simp; omega
      have h4 : ¬ (n : Int) = 0 := by omega
      clear h0 h1
      go_enter Try.func11, Try.ntmps11
      go_upto_region 1 with fail
      rw [← HE3.out]
      go_wp2
      go_ret2
      exact EncP.bad HR.out (by decide) HB3.out
  · rw [if_neg h0] at HRES
    have hn3 : ((n : Int) == 0) = false := by simp; omega
    have hn4 : ¬ (n : Int) = 0 := by omega
    have hm3 : ((m : Int) == 0) = false := by simp; omega
    have hm4 : ¬ (m : Int) = 0 := by omega
    clear h0
    by_cases h1 : 1024 < n ∨ 1024 < m
    · have HR : Hid (R = 3) := Lib.hid (by rw [HENC.out, HRES.out, if_pos h1]; rfl)
      clear HRES HENC
      by_cases h2 : 1024 < n
      · have h2' : (1024 : Int) < (n : Int) := by omega
        clear h1 h2
        go_enter Try.func11, Try.ntmps11
        go_upto_region 1 with fail
        rw [← HE3.out]
        go_wp2
        go_ret2
        exact EncP.bad HR.out (by decide) HB3.out
      · have h2' : ¬ (1024 : Int) < (n : Int) := by omega
        have h3' : (1024 : Int) < (m : Int) := by omega
        clear h1 h2
        go_enter Try.func11, Try.ntmps11
        go_upto_region 1 with fail
        rw [← HE3.out]
        go_wp2
        go_ret2
        exact EncP.bad HR.out (by decide) HB3.out
    · rw [if_neg h1] at HRES
      have h2' : ¬ (1024 : Int) < (n : Int) := by omega
      have h3' : ¬ (1024 : Int) < (m : Int) := by omega
      clear h1
      go_enter Try.func11, Try.ntmps11
      go_upto_region 1 with fail
      rw [← HE3.out]
      go_upto_region 6 with fail
      clear c1 c2 hn3 hn4 hm3 hm4 h2' h3'
      go_loopg [5, 7, 34] n (fun kx s5 s7 s34 wr => ∃ (i : Nat), i ≤ n ∧ s34 = .int .i64 i ∧ n - i ≤ kx ∧ Hid (chkL ((ins.take i).map (·.p)) = 0) ∧ Hid (Below W3.heap.size W3 wr))
      case atStart => exact ⟨0, Nat.zero_le _, rfl, Nat.le_refl _, Lib.hid rfl, Lib.hid (Below.refl _ _)⟩
      case round =>
        obtain ⟨i, hi, rfl, hk, HQ, HV⟩ := hrel
        have HW := Lib.hid (HKW.out _ HV.out).2.1
        by_cases hlt : i < n
        · obtain ⟨x, hx⟩ : ∃ x, ins[i]? = some x := ⟨_, List.getElem?_eq_getElem (by have := HN.out; omega)⟩
          have HX := Lib.hid hx
          obtain ⟨ga, offa, hgaa, hga, cxa⟩ := (HT.out.below HW.out).inp i x hx
          simp only at hgaa
          subst hgaa
          have HIAa := Lib.hid ((HT.out.below HW.out).iat x (List.mem_of_getElem? hx))
          have hlena : (x).cells.length = 36 := MIn.len HIAa.out.ok
          have HATa := Lib.hid (show (x).cells[32]? = _ ∧ (x).cells[33]? = _ ∧ (x).cells[34]? = _ ∧ (x).cells[35]? = _ from inC_at (out := (x).p.out) (sc := (x).p.sc) (seq := (x).p.seq) (W := .slice (x).wa (x).p.wit.length (x).wc) HIAa.out.ok.id)
          have HAIa := Lib.hid (show ∀ (j : Nat) (u : Value), (bys (x).p.id)[j]? = some u → (x).cells[j]? = some u from fun j u hu => inC_id j u hu)
          have honea : ∀ u ∈ (x).cells, u.oneCell' = true := inC_one
          obtain ⟨Ca, hCa⟩ : ∃ C, C = (x).cells := ⟨_, rfl⟩
          rw [← hCa] at HATa HAIa honea hlena cxa
          have HCa := Lib.hid hCa
          have HTHa := Lib.hid (cpr_there 65 wr Ca hlena)
          obtain ⟨Wa, ea, kba, ba, sa⟩ := cpr_pack 65 wr Ca hlena
          have KBa := Lib.hid kba
          have HBa := Lib.hid (HW.out.trans (ba.mono HW.out.size))
          have HDa := Lib.hid ba
          have HSa := Lib.hid sa
          have HCXa := Lib.hid cxa
          have HS1a := Lib.hid (show (Try.prog.info? 65).map (·.size) = some Ca.length by rw [hlena]; exact Try.sizeRIn)
          have HS2a := Lib.hid (show (Try.prog.info? 65).map (·.size) = some Ca.toArray.size by rw [List.size_toArray, hlena]; exact Try.sizeRIn)
          have HONEa := Lib.hid (all_oneCell_toArray honea)
          have HEa := Lib.hid ea
          clear honea hlena cxa kba ba sa ea hCa
          go_upto_region 8 with (first
            | (show wpList _ _ _ (Oper.mk (some 37) _ _ _ _ _ :: _) _ _; refine wpList_load_mid rfl 65 (.tmp 36) rfl ga (offa + i * 36) rfl Ca _ HCXa.out Try.underlying65 rfl HS1a.out ?_)
            | (show wpList _ _ _ (Oper.mk (some 5) _ _ _ _ _ :: _) _ _; refine wpList_of_wp rfl fun K hK => wp_alloc_arr 65 rfl ZIN.toArray Try.zeroRIn (hK _ _ ?_))
            | (show wpList _ _ _ (Oper.mk none _ _ _ _ _ :: _) _ _; refine wpList_store_mid rfl 65 (.tmp 5) (.tmp 37) rfl wr.heap.size 0 Ca.toArray rfl rfl HTHa.out HS2a.out HONEa.out ?_))
          rw [← HEa.out]
          have HV5 : Hid (Below W3.heap.size W3 Wa) := Lib.hid (HV.out.trans (HDa.out.mono HV.out.size))
          have c33 := KBa.out.cell 33 _ HATa.out.2.1
          have c35 := KBa.out.cell 35 _ HATa.out.2.2.2
          have hwl : (x.p.wit.length : Int) ≤ 9223372036854775807 := by have h1 := HIAa.out.wl; have h2 := HIAa.out.wc; omega
          have hsl : (x.p.sc.length : Int) ≤ 9223372036854775807 := HIAa.out.ok.scl
          have hps := strB_size x.p.sc
          have HRW := Lib.hid (HT.out.iat x (List.mem_of_getElem? hx)).wit
          have HWI := Lib.hid (fun q hq => (HIAa.out.ok.wit q hq).2)
          have HBAD : Hid (∀ k, chkI x.p = k → k ≠ 0 → R = k) := Lib.hid (fun k hk h0 => by
            have e := chkL_bad HX.out HQ.out (by rw [hk]; exact h0)
            rw [hk] at e
            rw [HENC.out, HRES.out, e, if_pos h0, if_pos h0])
          have HONE : Hid (chkI x.p = 0 → chkL ((ins.take (i + 1)).map (·.p)) = 0) := Lib.hid (fun h0 => chkL_one HX.out HQ.out h0)
          clear hx
          by_cases hw : 100 < x.p.wit.length
          · have hw' : (100 : Int) < (x.p.wit.length : Int) := by omega
            have HR : Hid (R = 3) := Lib.hid (HBAD.out 3 (chkI_3 hw) (by decide))
            clear hw
            go_wp2
            go_ret2
            exact EncP.bad HR.out (by decide) HBa.out
          · have hw' : ¬ (100 : Int) < (x.p.wit.length : Int) := by omega
            by_cases hs : 10000 < x.p.sc.length
            · have hs' : (10000 : Int) < (x.p.sc.length : Int) := by omega
              have HR : Hid (R = 6) := Lib.hid (HBAD.out 6 (chkI_6 hw hs) (by decide))
              clear hw hs
              go_wp2
              go_ret2
              exact EncP.bad HR.out (by decide) HBa.out
            · have hs' : ¬ (10000 : Int) < (x.p.sc.length : Int) := by omega
              have HCI := Lib.hid (chkI_any hw hs)
              clear hw hs
              generalize chkI x.p = CI at *
              generalize x.p.wit = wit at *
              generalize x.wa = Aw at *
              obtain ⟨v, hv⟩ : ∃ v, v = wit.length := ⟨_, rfl⟩
              rw [← hv] at c35 hwl hw' HRW
              have HVV := Lib.hid hv
              clear hv
              go_upto_region 13 with fail
              clear c33 c35 hs' hw'
              go_loopg [7, 49] v (fun ky t7 t49 wy => ∃ (j : Nat), j ≤ v ∧ t49 = .int .i64 j ∧ v - j ≤ ky ∧ wy = Wa ∧ Hid ((wit.take j).any (fun p => decide (10000 < p.length)) = false))
              case atStart => exact ⟨0, Nat.zero_le _, rfl, Nat.le_refl _, rfl, Lib.hid rfl⟩
              case round =>
                obtain ⟨j, hj, rfl, hkj, rfl, HA⟩ := hrel
                by_cases hlj : j < v
                · obtain ⟨q, hq⟩ : ∃ q, wit[j]? = some q := ⟨_, List.getElem?_eq_getElem (by have := HVV.out; omega)⟩
                  obtain ⟨ga2, oa2, hwa, hga2, cp⟩ := strs_at (HRW.out.below HBa.out) j q hq
                  subst hwa
                  have hqs := strB_size q
                  have hql := HWI.out q (List.mem_of_getElem? hq)
                  by_cases h10 : 10000 < q.length
                  · have h10' : (10000 : Int) < (q.length : Int) := by omega
                    have HR : Hid (R = 6) := Lib.hid (HBAD.out 6 (by rw [HCI.out, if_pos (List.any_eq_true.2 ⟨q, List.mem_of_getElem? hq, by simpa using h10⟩)]) (by decide))
                    clear h10 hq
                    go_wp2
                    go_ret2
                    exact EncP.bad HR.out (by decide) HBa.out
                  · have h10' : ¬ (10000 : Int) < (q.length : Int) := by omega
                    have HA2 : Hid ((wit.take (j + 1)).any (fun p => decide (10000 < p.length)) = false) := Lib.hid (by
                      rw [take_one hq, List.any_append, HA.out]
                      simp
                      omega)
                    clear h10 hq
                    go_wp2
                    go_roundg (v - (j + 1))
                    case measure => omega
                    case rel => exact ⟨j + 1, by omega, by go_num, Nat.le_refl _, rfl, HA2⟩
                · have HQ2 := Lib.hid (HONE.out (by
                    have e : wit.take j = wit := List.take_of_length_le (by have := HVV.out; omega)
                    rw [HCI.out, ← e, HA.out]
                    rfl))
                  go_wp2
                  go_roundg (n - (i + 1))
                  case measure => omega
                  case rel => exact ⟨i + 1, by omega, by go_num, Nat.le_refl _, HQ2, HV5⟩
        · have HQ3 : Hid (chkL (ins.map (·.p)) = 0) := Lib.hid (by
            have := HQ.out
            rwa [List.take_of_length_le (by have := HN.out; omega)] at this)
          have HRES2 : Hid (CK = if outs.any (fun o => decide (10000 < o.sc.length)) then 6 else 0) := Lib.hid (by
            rw [HRES.out, HQ3.out]; rfl)
          have c2 := (HKW.out _ HV.out).1.c2
          go_upto_region 20 with fail
          clear c2
          go_loopg [9, 61] m (fun kx s9 s61 wr => ∃ (i : Nat), i ≤ m ∧ s61 = .int .i64 i ∧ m - i ≤ kx ∧ Hid ((outs.take i).any (fun o => decide (10000 < o.sc.length)) = false) ∧ Hid (Below W3.heap.size W3 wr))
          case atStart => exact ⟨0, Nat.zero_le _, rfl, Nat.le_refl _, Lib.hid rfl, HV⟩
          case round =>
            clear HV HW HQ
            obtain ⟨j, hj, rfl, hkj, HA, HY⟩ := hrel
            have HWY := Lib.hid (HKW.out _ HY.out).2.1
            by_cases hlj : j < m
            · obtain ⟨p, hp⟩ : ∃ p, outs[j]? = some p := ⟨_, List.getElem?_eq_getElem (by have := HM.out; omega)⟩
              obtain ⟨ga, oa2, rfl, hga, ca, cb⟩ := (HT.out.below HWY.out).outp j p hp
              have hps := strB_size p.sc
              have hpl := (HT.out.ook p (List.mem_of_getElem? hp)).scl
              have HP := Lib.hid hp
              have HB6 : Hid (Below W3.heap.size W3 (wr.alloc (.cells #[.int .i64 p.coins, .string (strB p.sc)] 66))) := Lib.hid (HY.out.alloc HY.out.size _)
              clear hp
              by_cases hl : 10000 < p.sc.length
              · have hl' : (10000 : Int) < (p.sc.length : Int) := by omega
                have HR6 : Hid (R = 6) := Lib.hid (by
                  rw [HENC.out, HRES2.out, if_pos (List.any_eq_true.2 ⟨p, List.mem_of_getElem? HP.out, by simpa using hl⟩)]; rfl)
                clear hl
                go_wp2
                go_ret2
                exact EncP.bad HR6.out (by decide) (HKW.out _ HB6.out).2.1
              · have hl' : ¬ (10000 : Int) < (p.sc.length : Int) := by omega
                have HR2 : Hid ((outs.take (j + 1)).any (fun o => decide (10000 < o.sc.length)) = false) := Lib.hid (by
                  rw [take_one HP.out, List.any_append, HA.out]
                  simp
                  omega)
                clear hl
                go_wp2
                go_roundg (m - (j + 1))
                case measure => omega
                case rel => exact ⟨j + 1, by omega, by go_num, Nat.le_refl _, HR2, HB6⟩
            · have HCK : Hid (CK = 0) := Lib.hid (by
                have e : outs.take j = outs := List.take_of_length_le (by have := HM.out; omega)
                rw [HRES2.out, ← e, HA.out]
                rfl)
              have HENC2 : Hid (R = if 65536 < (layB P (hasW P)).length then 6 else 0) := Lib.hid (by rw [HENC.out, HCK.out]; rfl)
              generalize hHW : hasW P = hw at *
              have HHW := Lib.hid hHW
              clear hHW
              go_upto_region 25 with fail
              refine wp_region_noPanic ?_
              refine wp_region_held_drew (S := (fun wx => Below W3.heap.size W3 wx)) (by kernel_rfl) (Below.drew' HY.out) (fun hHeld => ?_)
              refine wpAnyH_take (i := 0) (v := .agg (TC).toArray) (by simp only [List.getElem?_toArray, List.getElem?_cons_succ, List.getElem?_cons_zero]; rfl) (by kernel_rfl) (by kernel_rfl) (by kernel_rfl) (fun _ _ _ h => h) (yieldsIf_load_mid (by first | kernel_rfl | rfl) 38 (.tmp 1) rfl w.heap.size (0) rfl (TC) _ (fun wx hx => (HKW.out wx hx).2.2) Try.underlying38 rfl (HSZ.out)) (by assumption) ?_
              (try simp only [Act.put, List.setIfInBounds_toArray, List.set_cons_zero, List.set_cons_succ])
              refine wpAnyH_take (i := 1) (v := .agg (TC).toArray) (by simp only [List.getElem?_toArray, List.getElem?_cons_succ, List.getElem?_cons_zero]; rfl) (by kernel_rfl) (by kernel_rfl) (by kernel_rfl) (fun _ _ _ h => h) (yieldsIf_load_mid (by first | kernel_rfl | rfl) 38 (.tmp 1) rfl w.heap.size (0) rfl (TC) _ (fun wx hx => (HKW.out wx hx).2.2) Try.underlying38 rfl (HSZ.out)) (by assumption) ?_
              (try simp only [Act.put, List.setIfInBounds_toArray, List.set_cons_zero, List.set_cons_succ])
              refine wpAnyH_ready (rs := [2]) (by kernel_rfl) (by simp) ?_
              refine AllReadyH.cons (by simp only [List.getElem?_toArray, List.getElem?_cons_succ, List.getElem?_cons_zero]; rfl) (fun K hK => ?_) AllReadyH.nil
              go_simp
              refine (HHB.out _ (HKW.out _ hHeld).2.1).mono ?_
              rintro ee w6 ⟨rfl, hb6⟩
              refine hK.out _ _ ?_ (fun hHeld => ?_)
              · exact hHeld.trans (hb6.mono hHeld.size)
              clear hK K
              (try simp only [Act.put, List.setIfInBounds_toArray, List.set_cons_zero, List.set_cons_succ])
              refine wpAnyH_ready (rs := [3]) (by kernel_rfl) (by simp) ?_
              refine AllReadyH.cons (by simp only [List.getElem?_toArray, List.getElem?_cons_succ, List.getElem?_cons_zero]; rfl) (fun K hK => ?_) AllReadyH.nil
              go_simp
              refine (HLB.out hw _ (HKW.out _ hHeld).2.1 HCK.out).mono ?_
              rintro ee w7 ⟨v7, rfl, bf7, hb7⟩
              have HBF := Lib.hid (bf7.base_le (HKW.out _ hHeld).2.1.size)
              clear bf7
              refine hK.out _ _ ?_ (fun hHeld => ?_)
              · exact hHeld.trans (hb7.mono hHeld.size)
              clear hK K
              (try simp only [Act.put, List.setIfInBounds_toArray, List.set_cons_zero, List.set_cons_succ])
              refine wpAnyH_take (i := 4) (v := ?_) (by simp only [List.getElem?_toArray, List.getElem?_cons_succ, List.getElem?_cons_zero]; rfl) (by kernel_rfl) (by kernel_rfl) (by kernel_rfl) (fun _ _ _ h => h) (Or.inl ⟨by rfl, ?_⟩) (by assumption) ?_
              rotate_left
              · (intro w hSw; (try dsimp only at hSw); go_simp; (try with_reducible rfl))
              (try simp only [Act.put, List.setIfInBounds_toArray, List.set_cons_zero, List.set_cons_succ])
              refine wpAnyH_done (by kernel_rfl) ?_ _
              refine NoPanic.normal ?_
              have HB7 := Lib.hid hHeld
              clear hb7 hb6 hHeld
              obtain ⟨A, c, rfl, hcl, hrd⟩ := HBF.out.slice
              have hcm := HBF.out.cap_le
              unfold maxLen at hcm
              obtain ⟨N, hNN⟩ : ∃ N, N = (layB P hw).length := ⟨_, rfl⟩
              rw [← hNN] at HENC2 hcl ⊢
              have hNi : (N : Int) ≤ 9223372036854775807 := by omega
              have HNN := Lib.hid hNN
              have HBFn : Hid (Buf w7 w.heap.size (.slice A N c) N (bys (layB P hw))) := Lib.hid (by have := HBF.out; rwa [← hNN] at this)
              clear hrd hNN HBF hcl hcm
              by_cases hy : 65536 < N
              · have hy' : (65536 : Int) < (N : Int) := by omega
                have HR : Hid (R = 6) := Lib.hid (by rw [HENC2.out, if_pos hy])
                clear hy
                go_wp2
                go_ret2
                exact EncP.bad HR.out (by decide) (HKW.out _ HB7.out).2.1
              · have hy' : ¬ (65536 : Int) < (N : Int) := by omega
                have HR : Hid (R = 0) := Lib.hid (by rw [HENC2.out, if_neg hy])
                clear hy
                go_wp2
                go_ret2
                refine ⟨.slice A N c, by rw [HR.out]; rfl, fun _ => ?_, fun h => absurd HR.out h, (HKW.out _ HB7.out).2.1⟩
                rw [HHW.out, ← HNN.out]
                exact HBFn.out
end Go.Proofs.Ytkdkihacpjhgmaa
