/- The walk of PageCuts. -/
import Derived.Test.YtalcdmpjpphopaaPC
namespace Go.Proofs.Ytalcdmpjpphopaa
set_option linter.unusedSimpArgs false
set_option linter.unusedVariables false
open Go.RowKit

theorem i64_andFFFF (n : Int) : bits .and .i64 n 65535 = n % 65536 := by
  have h63 : (BitVec.ofInt 64 65535).toNat = 2 ^ 16 - 1 := by decide
  have key : (BitVec.ofInt 64 n &&& BitVec.ofInt 64 65535).toNat = (n % ((2 ^ 64 : Nat) : Int)).toNat % 2 ^ 16 := by
    rw [BitVec.toNat_and, BitVec.toNat_ofInt, h63, Nat.and_two_pow_sub_one_eq_mod]
  show IntKind.i64.wrap ((BitVec.ofInt 64 n &&& BitVec.ofInt 64 65535).toNat : Nat) = n % 65536
  rw [key, IntKind.wrap_i64]
  omega
theorem mkGo_len : ∀ (L : List Pr) (i : Nat) (prev b st : List Nat), (mkGo i prev b st L).2 = 0 → 4 ≤ (mkGo i prev b st L).1.length
  | [], i, prev, b, st, _ => by rw [mkGo]; simp [M.leB_len]; omega
  | p :: r, i, prev, b, st, h => by
    rw [mkGo] at h ⊢
    split at h
    · simp at h
    · next h1 =>
      rw [if_neg h1]
      split at h
      · simp at h
      · next h2 =>
        rw [if_neg h2]
        exact mkGo_len r _ _ _ _ h
theorem mkGo_small : ∀ (L : List Pr) (i : Nat) (prev b st : List Nat), b.length ≤ 262144 → (mkGo i prev b st L).1.length ≤ 262144 + 4 * (st.length + L.length) + 4
  | [], i, prev, b, st, h => by rw [mkGo]; simp [M.leB_len, les_len]; omega
  | p :: r, i, prev, b, st, h => by
    rw [mkGo]
    split
    · simp
    · split
      · simp
      · next h2 =>
        have := mkGo_small r (i + 1) p.1 (b ++ pairB (ahd i prev) p) (if i % 8 = 0 then st ++ [b.length] else st) (by omega)
        refine Nat.le_trans this ?_
        split <;> simp <;> omega
theorem xor_ne (x t : Nat) (h : t ≠ 0) : x ^^^ t ≠ x := by
  intro e
  have : x ^^^ (x ^^^ t) = x ^^^ x := by rw [e]
  rw [← Nat.xor_assoc, Nat.xor_self, Nat.zero_xor] at this
  exact h this
theorem xor_byte (x t : Nat) (hx : x < 256) (ht : t < 256) : x ^^^ t < 256 := by
  have e : (256 : Nat) = 2 ^ 8 := by decide
  rw [e] at hx ht ⊢
  exact Nat.xor_lt_two_pow hx ht

set_option maxHeartbeats 4000000 in
set_option maxRecDepth 100000 in
theorem cuts_walk (A : Option Addr) (c : Nat) (L : List Pr) (x : Int) (t : Nat) (w : World) (hr : RdN w w.heap.size 2 A L.length (prC2 L)) (hf : ∀ p ∈ L, fitP p) (hlen : L.length ≤ maxLen) (ht : t < 256) :
    Calls Try.prog 7 #[.slice A L.length c, .int .i64 x, .int .u8 (t : Int)] w fun e w' => e = .returned (.bool true) ∧ Below w.heap.size w w' := by
  obtain ⟨i5, hi5, hy0, hy1, hy2⟩ := info_parts Try.info5
  have HBIG := Lib.hid (fun W (hb : Below w.heap.size w W) => big_any'' A c L W ((hr.below hb).up hb.size) hf hlen)
  have HR := Lib.hid hr
  have HS := Lib.hid hf
  have hlen' : (L.length : Int) ≤ 9223372036854775807 := by unfold maxLen at hlen; omega
  obtain ⟨bg, hbg⟩ : ∃ bg, bg = bigP L := ⟨_, rfl⟩
  rw [← hbg] at HBIG
  have HBG := Lib.hid hbg
  obtain ⟨X, hX, hx⟩ : ∃ X : Nat, X < 65536 ∧ bits .and .i64 x 65535 = (X : Int) := ⟨(x % 65536).toNat, by omega, by rw [i64_andFFFF]; omega⟩
  have hXi : (X : Int) < 65536 := by omega
  clear hr hf hlen hbg hX
  obtain ⟨N, hN⟩ : ∃ N, N = L.length := ⟨_, rfl⟩
  rw [← hN] at HBIG hlen' ⊢
  have HN := Lib.hid hN
  clear hN
  go_enter Try.func7, Try.ntmps7
  go_upto_region 3 with (go_at_call 9; refine (head_any _).mono ?_; rintro e w1 ⟨rfl, hb1⟩)
  have HB1 := Lib.hid hb1
  have s1 := hb1.size
  clear hb1
  go_wp2_with fail
  refine (HBIG.out _ HB1.out).mono ?_
  rintro e w2 ⟨rfl, hb2⟩
  have HB2 := Lib.hid (HB1.out.trans (hb2.mono s1))
  clear HBIG hb2
  cases bg with
  | true =>
    go_wp2
    go_ret
    exact ⟨rfl, HB2.out⟩
  | false =>
    have hno := bigP_no L HBG.out.symm
    have h60 : (N : Int) ≤ 60 := by have := hno.1; have := HN.out; omega
    have HOK : Hid (∀ p ∈ L, okP p) := Lib.hid (fun p hp => ⟨(HS.out p hp).1, (HS.out p hp).2.1, by have := hno.2 p hp; omega, by have := hno.2 p hp; omega⟩)
    have HLB : Hid (∀ p ∈ L, (∀ x ∈ p.1, x < 256) ∧ ∀ x ∈ p.2, x < 256) := Lib.hid (fun p hp => ⟨(HS.out p hp).1, (HS.out p hp).2.1⟩)
    have HM1 := Lib.hid (make_any A c L w2 ((HR.out.below HB2.out).up HB2.out.size) HOK.out (by have := HN.out; omega))
    rw [← HN.out] at HM1
    have HMB := Lib.hid (mk_bytes L HOK.out)
    have HMG := Lib.hid (fun (h : (mk L).2 = 0) => mkGo_len L 0 [] [] [] h)
    have HMS := Lib.hid (mkGo_small L 0 [] [] [] (by simp))
    clear hno HBG
    obtain ⟨b, hbE⟩ : ∃ b, b = (mk L).1 := ⟨_, rfl⟩
    obtain ⟨ev, hev⟩ : ∃ ev, ev = (mk L).2 := ⟨_, rfl⟩
    have HMKL0 : Hid (mk L = (b, ev)) := Lib.hid (by rw [hbE, hev])
    rw [← hbE] at HM1 HMB
    rw [← hev] at HM1
    have HMG2 : Hid (ev = 0 → 4 ≤ b.length) := Lib.hid (by rw [hev, hbE]; exact HMG.out)
    have HMS2 : Hid ((b.length : Int) ≤ 300000) := Lib.hid (by have h1 := HMS.out; have h2 := HN.out; rw [hbE]; unfold mk; simp only [List.length_nil, Nat.zero_add] at h1; omega)
    clear hbE hev HMG HMS
    go_wp2_with fail
    refine HM1.out.mono ?_
    rintro e w3 ⟨v3, rfl, hf3, hb3⟩
    have HB3 := Lib.hid (HB2.out.trans (hb3.mono HB2.out.size))
    have hq7 : ∃ A7 c7, v3 = .slice A7 b.length c7 ∧ b.length ≤ c7 ∧ c7 ≤ maxLen ∧ Rd w3 w3.heap.size A7 b.length (bys b) := by
      obtain ⟨A, c, rfl, h1, h2⟩ := hf3.slice
      exact ⟨A, c, rfl, h1, hf3.cap_le, h2⟩
    obtain ⟨A7, c7, rfl, hm7, hc7, hr7⟩ := hq7
    have HR7 := Lib.hid hr7
    have HC7 := Lib.hid hc7
    have HBB := HMB
    clear hf3 hb3 hr7 hc7 HM1
    by_cases hev : ev = 0
    · subst hev
      have hm4 := HMG2.out rfl
      have hm3 := HMS2.out
      obtain ⟨m, hm⟩ : ∃ m, m = b.length := ⟨_, rfl⟩
      rw [← hm] at hm4 hm3 hm7 HR7
      have HML : Hid (b.length = m) := Lib.hid hm.symm
      have HMKL := HMKL0
      rw [← hm]
      obtain ⟨q, hq⟩ : ∃ q, q = X % m := ⟨_, rfl⟩
      have hqm : q < m := by rw [hq]; exact Nat.mod_lt _ (by omega)
      have hqi : (X : Int) % (m : Int) = (q : Int) := by rw [hq]; simp
      have hm0 : (0 : Int) < (m : Int) := by omega
      have hmn0 : ¬ (m : Int) = 0 := by omega
      clear hm hq HMG2 HMS2 HMKL0 hm4
      have HRB := Lib.hid (fun W (hW : Below w3.heap.size w3 W) => (HR7.out.below hW).up hW.size)
      have HRL := Lib.hid (fun W (hW : Below w3.heap.size w3 W) => (HR.out.below (HB3.out.trans (hW.mono HB3.out.size))).up (HB3.out.trans (hW.mono HB3.out.size)).size)
      have hown : (w3.alloc (.cells #[] 5)).ownsRow w3.heap.size 5 1 (.slice (some ⟨w3.heap.size, 0, none⟩) 0 0) 0 [] := World.ownsRow_lit (e := 5) (size := 1) w3 #[] 0 (Nat.le_refl _) (by unfold maxLen; omega) rfl
      have hba : Below w3.heap.size w3 (w3.alloc (.cells #[] 5)) := (Below.refl _ _).alloc (Nat.le_refl _) _
      obtain ⟨v4, w4, run4, own4, gr4, _⟩ := run_appN (P := Try.prog) (w3.alloc (.cells #[] 5)) w3.heap.size 25 25 5 i5 _ 1 1 Try.underlying25 hi5 hy0 hy1 hy2 rfl (by omega) hown (HR7.out.below hba).toN (c := c7) (bys_one _) (by unfold maxLen; omega) (by omega) (by simp)
      rw [Nat.zero_add, List.nil_append] at own4
      have HRUN := Lib.hid run4
      have HO4 := Lib.hid own4
      have HB4 := Lib.hid (hba.grown gr4 (by simp) (fun k hk => by simp [Value.ownBlock] at hk; omega) : Below w3.heap.size w3 w4)
      obtain ⟨g, cap, rfl, hbg, _, _, hcm4⟩ := own_open own4 (by omega)
      obtain ⟨g', off, e1, _, hc⟩ := (own_rd own4).2 (by omega)
      injection e1 with e1
      injection e1 with e1 e2
      subst e1
      subst e2
      have hcb := hc q _ (bys_get b q (by rw [HML.out]; exact hqm))
      rw [Nat.zero_add] at hcb
      have hfz := own4.frozenAt q
      have hcl := getD_lt HBB.out q
      have hxr := u8_xor_nat (b.getD q 0) t hcl ht
      have hyl := xor_byte _ t hcl ht
      have HYN := Lib.hid (fun h => xor_ne (b.getD q 0) t h)
      have HGX : Hid (∃ X0, b.getD q 0 = X0) := Lib.hid ⟨_, rfl⟩
      generalize hgx : b.getD q 0 = X0 at *
      have HGD := Lib.hid hgx
      clear hgx HGX
      have hxi : (X0 : Int) ≤ 255 := by omega
      have hti : (t : Int) ≤ 255 := by omega
      generalize X0 ^^^ t = y at *
      have HST : Hid ((w4.setCell ⟨g, q, none⟩ (.int .u8 (y : Int))).ownsRow w3.heap.size 5 1 (.slice (some ⟨g, 0, none⟩) m cap) m (bys (b.set q y)) ∧ Below w3.heap.size w3 (w4.setCell ⟨g, q, none⟩ (.int .u8 (y : Int)))) := Lib.hid (by
        obtain ⟨h1, h2⟩ := own4.stored q (.int .u8 (y : Int))
        exact ⟨by simpa [bys, List.map_set] using h1, HB4.out.setCell (p := ⟨g, q, none⟩) hbg _⟩)
      have HCB : Hid (∀ x ∈ b.set q y, x < 256) := Lib.hid (set_lt' b q y HBB.out hyl)
      clear hown hba run4 own4 gr4 hc hcl hyl hbg
      go_upto_region 9 with fail
      go_wp2_with (first
        | (refine arm_append 25 (.tmp 30) (.tmp 31) (v' := ?_) (w' := ?_) ?hr2 ?_; case hr2 => exact HRUN.out))
      refine (parse_any (some ⟨g, 0, none⟩) m cap (b.set q y) _ (own_rd HST.out.1) HCB.out (by omega) (by have := HO4.out; obtain ⟨A', c', e, h1, _⟩ := own_rdN this; cases e; exact h1) hcm4).mono ?_
      obtain ⟨er, her⟩ : ∃ er : Int, er = if parseOk (b.set q y) then 0 else 2 := ⟨_, rfl⟩
      rw [← her]
      have HER := Lib.hid her
      rintro e wp ⟨vp, rfl, hop, hbp, hokp, hlp⟩
      have HPp := Lib.hid (HST.out.2.trans (hbp.mono HST.out.2.size))
      obtain ⟨Ap, cp, rfl, _, _, hrp⟩ := own_rdN hop
      have HRP := Lib.hid hrp
      have HOKP := Lib.hid hokp
      clear her hop hbp hokp hrp hcb hfz HRUN
      cases hp : parseOk (b.set q y) with
      | false =>
        rw [hp, if_neg (by simp)] at HER
        have he := HER.out
        subst he
        go_upto_region 14 with fail
        obtain ⟨wz, hwz⟩ : ∃ wz, wz = wp.alloc (.cells #[.slice Ap (parL (b.set q y)).length cp] 35) := ⟨_, rfl⟩
        rw [← hwz]
        have HZ : Hid (Below w3.heap.size w3 wz) := by rw [hwz]; exact Lib.hid (HPp.out.alloc HPp.out.size _)
        clear hwz
        have hrz := HRB.out _ HZ.out
        have hrt := hrz.take q (by omega)
        rw [← bys_take] at hrt
        have HP2 := Lib.hid (parse_any A7 q c7 (b.take q) wz hrt (fun x hx => HBB.out x (List.mem_of_mem_take hx)) (by omega) (by omega) HC7.out)
        obtain ⟨er2, her2⟩ : ∃ er2 : Int, er2 = if parseOk (b.take q) then 0 else 2 := ⟨_, rfl⟩
        rw [← her2] at HP2
        have HER2 := Lib.hid her2
        have hsh := fun W => run_slice_h (P := Try.prog) W 25 5 i5 Try.underlying25 hi5 hy1 A7 m c7 q (by omega) .i64 ((q : Nat) : Int) rfl
        clear her2 hrz hrt
        go_wp2_with fail
        refine HP2.out.mono ?_
        rintro e wa ⟨va, rfl, hoa, hba, hoka, hla⟩
        have HA := Lib.hid (HZ.out.trans (hba.mono HZ.out.size))
        obtain ⟨Aa, ca, rfl, _, _, hra⟩ := own_rdN hoa
        have HRA := Lib.hid hra
        have HOKA := Lib.hid hoka
        clear hoa hba hoka hra hsh HP2
        cases hp2 : parseOk (b.take q) with
        | false =>
          rw [hp2, if_neg (by simp)] at HER2
          have he2 := HER2.out
          subst he2
          have HF := Lib.hid (HB3.out.trans ((HA.out.alloc HA.out.size (.cells #[.slice Aa (parL (b.take q)).length ca] 35)).mono HB3.out.size))
          go_wp2
          go_ret
          exact ⟨rfl, HF.out⟩
        | true =>
          have hpl : parL (b.take q) = (readM (b.take q)).1 := by unfold parL; rw [hp2, if_pos rfl]
          have HNE : Hid (decide (parL (b.take q) = L) = false) := Lib.hid (decide_eq_false (fun e => by
            have h1 := parse_made _ hp2
            rw [← hpl, e, HMKL.out] at h1
            injection h1 with h1 _
            have h2 := congrArg List.length h1
            rw [List.length_take, HML.out] at h2
            omega))
          rw [hp2, if_pos rfl] at HER2
          have he2 := HER2.out
          subst he2
          clear hpl hp2
          generalize parL (b.take q) = Q2 at *
          go_upto_region 15 with fail
          obtain ⟨wb, hwb⟩ : ∃ wb, wb = wa.alloc (.cells #[.slice Aa Q2.length ca] 35) := ⟨_, rfl⟩
          rw [← hwb]
          have bb : Below wa.heap.size wa wb := by rw [hwb]; exact (Below.refl _ _).alloc (Nat.le_refl _) _
          have cb : wb.cell? ⟨wa.heap.size, 0, none⟩ = some (.slice Aa Q2.length ca) := by rw [hwb, World.cell?_alloc_mark]; rfl
          obtain ⟨ga, hga⟩ : ∃ ga, ga = wa.heap.size := ⟨_, rfl⟩
          rw [← hga] at cb ⊢
          have HBb := Lib.hid (HA.out.trans (bb.mono HA.out.size))
          have hQl : (Q2.length : Int) ≤ 1000000 := by omega
          have HAL := Lib.hid (all_any Aa ca Q2 wb ((HRA.out.below bb).up bb.size) hQl)
          clear hwb bb hga
          go_wp2_with fail
          refine HAL.out.mono ?_
          rintro e wc ⟨vc, rfl, hoc, hbc⟩
          have HCc := Lib.hid (HBb.out.trans (hbc.mono HBb.out.size))
          obtain ⟨Ac, cc, rfl, _, _, hrc⟩ := own_rdN hoc
          have hrl := HRL.out _ HCc.out
          have HSM := Lib.hid (same_any Ac A cc c Q2 L wc hrc hrl (fun p hp => ⟨(HOKA.out p hp).1, (HOKA.out p hp).2.1⟩) HLB.out hQl (by have := HN.out; omega))
          rw [HNE.out, ← HN.out] at HSM
          clear hoc hbc hrc hrl cb
          go_wp2_with fail
          refine HSM.out.mono ?_
          rintro e wd ⟨rfl, hbd⟩
          have HF := Lib.hid (HB3.out.trans ((HCc.out.trans (hbd.mono HCc.out.size)).mono HB3.out.size))
          clear hbd
          go_wp2
          go_ret
          exact ⟨rfl, HF.out⟩
      | true =>
        rw [hp, if_pos rfl] at HER
        have he := HER.out
        subst he
        by_cases ht0 : t = 0
        · have ht0' : ((t : Int) != 0) = false := by simp [ht0]
          clear ht0
          go_upto_region 14 with fail
          obtain ⟨wz, hwz⟩ : ∃ wz, wz = wp.alloc (.cells #[.slice Ap (parL (b.set q y)).length cp] 35) := ⟨_, rfl⟩
          rw [← hwz]
          have HZ : Hid (Below w3.heap.size w3 wz) := by rw [hwz]; exact Lib.hid (HPp.out.alloc HPp.out.size _)
          clear hwz
          have hrz := HRB.out _ HZ.out
          have hrt := hrz.take q (by omega)
          rw [← bys_take] at hrt
          have HP2 := Lib.hid (parse_any A7 q c7 (b.take q) wz hrt (fun x hx => HBB.out x (List.mem_of_mem_take hx)) (by omega) (by omega) HC7.out)
          obtain ⟨er2, her2⟩ : ∃ er2 : Int, er2 = if parseOk (b.take q) then 0 else 2 := ⟨_, rfl⟩
          rw [← her2] at HP2
          have HER2 := Lib.hid her2
          have hsh := fun W => run_slice_h (P := Try.prog) W 25 5 i5 Try.underlying25 hi5 hy1 A7 m c7 q (by omega) .i64 ((q : Nat) : Int) rfl
          clear her2 hrz hrt
          go_wp2_with fail
          refine HP2.out.mono ?_
          rintro e wa ⟨va, rfl, hoa, hba, hoka, hla⟩
          have HA := Lib.hid (HZ.out.trans (hba.mono HZ.out.size))
          obtain ⟨Aa, ca, rfl, _, _, hra⟩ := own_rdN hoa
          have HRA := Lib.hid hra
          have HOKA := Lib.hid hoka
          clear hoa hba hoka hra hsh HP2
          cases hp2 : parseOk (b.take q) with
          | false =>
            rw [hp2, if_neg (by simp)] at HER2
            have he2 := HER2.out
            subst he2
            have HF := Lib.hid (HB3.out.trans ((HA.out.alloc HA.out.size (.cells #[.slice Aa (parL (b.take q)).length ca] 35)).mono HB3.out.size))
            go_wp2
            go_ret
            exact ⟨rfl, HF.out⟩
          | true =>
            have hpl : parL (b.take q) = (readM (b.take q)).1 := by unfold parL; rw [hp2, if_pos rfl]
            have HNE : Hid (decide (parL (b.take q) = L) = false) := Lib.hid (decide_eq_false (fun e => by
              have h1 := parse_made _ hp2
              rw [← hpl, e, HMKL.out] at h1
              injection h1 with h1 _
              have h2 := congrArg List.length h1
              rw [List.length_take, HML.out] at h2
              omega))
            rw [hp2, if_pos rfl] at HER2
            have he2 := HER2.out
            subst he2
            clear hpl hp2
            generalize parL (b.take q) = Q2 at *
            go_upto_region 15 with fail
            obtain ⟨wb, hwb⟩ : ∃ wb, wb = wa.alloc (.cells #[.slice Aa Q2.length ca] 35) := ⟨_, rfl⟩
            rw [← hwb]
            have bb : Below wa.heap.size wa wb := by rw [hwb]; exact (Below.refl _ _).alloc (Nat.le_refl _) _
            have cb : wb.cell? ⟨wa.heap.size, 0, none⟩ = some (.slice Aa Q2.length ca) := by rw [hwb, World.cell?_alloc_mark]; rfl
            obtain ⟨ga, hga⟩ : ∃ ga, ga = wa.heap.size := ⟨_, rfl⟩
            rw [← hga] at cb ⊢
            have HBb := Lib.hid (HA.out.trans (bb.mono HA.out.size))
            have hQl : (Q2.length : Int) ≤ 1000000 := by omega
            have HAL := Lib.hid (all_any Aa ca Q2 wb ((HRA.out.below bb).up bb.size) hQl)
            clear hwb bb hga
            go_wp2_with fail
            refine HAL.out.mono ?_
            rintro e wc ⟨vc, rfl, hoc, hbc⟩
            have HCc := Lib.hid (HBb.out.trans (hbc.mono HBb.out.size))
            obtain ⟨Ac, cc, rfl, _, _, hrc⟩ := own_rdN hoc
            have hrl := HRL.out _ HCc.out
            have HSM := Lib.hid (same_any Ac A cc c Q2 L wc hrc hrl (fun p hp => ⟨(HOKA.out p hp).1, (HOKA.out p hp).2.1⟩) HLB.out hQl (by have := HN.out; omega))
            rw [HNE.out, ← HN.out] at HSM
            clear hoc hbc hrc hrl cb
            go_wp2_with fail
            refine HSM.out.mono ?_
            rintro e wd ⟨rfl, hbd⟩
            have HF := Lib.hid (HB3.out.trans ((HCc.out.trans (hbd.mono HCc.out.size)).mono HB3.out.size))
            clear hbd
            go_wp2
            go_ret
            exact ⟨rfl, HF.out⟩
        · have ht0' : ((t : Int) != 0) = true := by simp [bne]; omega
          have hplc : parL (b.set q y) = (readM (b.set q y)).1 := by unfold parL; rw [hp, if_pos rfl]
          have HNEC : Hid (decide (parL (b.set q y) = L) = false) := Lib.hid (decide_eq_false (fun e => by
            have h1 := parse_made _ hp
            rw [← hplc, e, HMKL.out] at h1
            injection h1 with h1 _
            have h2 : b.getD q 0 = (b.set q y).getD q 0 := by rw [← h1]
            have h3 : (b.set q y).getD q 0 = y := by simp [List.getD, HML.out, hqm]
            rw [h3, HGD.out] at h2
            exact HYN.out ht0 h2.symm))
          clear hplc hp ht0
          generalize parL (b.set q y) = Q1 at *
          go_upto_region 12 with fail
          obtain ⟨wb, hwb⟩ : ∃ wb, wb = wp.alloc (.cells #[.slice Ap Q1.length cp] 35) := ⟨_, rfl⟩
          rw [← hwb]
          have bb : Below wp.heap.size wp wb := by rw [hwb]; exact (Below.refl _ _).alloc (Nat.le_refl _) _
          have cb : wb.cell? ⟨wp.heap.size, 0, none⟩ = some (.slice Ap Q1.length cp) := by rw [hwb, World.cell?_alloc_mark]; rfl
          obtain ⟨ga, hga⟩ : ∃ ga, ga = wp.heap.size := ⟨_, rfl⟩
          rw [← hga] at cb ⊢
          have HBb := Lib.hid (HPp.out.trans (bb.mono HPp.out.size))
          have hQl : (Q1.length : Int) ≤ 1000000 := by omega
          have HAL := Lib.hid (all_any Ap cp Q1 wb ((HRP.out.below bb).up bb.size) hQl)
          clear hwb bb hga
          go_wp2_with fail
          refine HAL.out.mono ?_
          rintro e wc ⟨vc, rfl, hoc, hbc⟩
          have HCc := Lib.hid (HBb.out.trans (hbc.mono HBb.out.size))
          obtain ⟨Ac, cc, rfl, _, _, hrc⟩ := own_rdN hoc
          have hrl := HRL.out _ HCc.out
          have HSM := Lib.hid (same_any Ac A cc c Q1 L wc hrc hrl (fun p hp => ⟨(HOKP.out p hp).1, (HOKP.out p hp).2.1⟩) HLB.out hQl (by have := HN.out; omega))
          rw [HNEC.out, ← HN.out] at HSM
          clear hoc hbc hrc hrl cb
          go_wp2_with fail
          refine HSM.out.mono ?_
          rintro e wz ⟨rfl, hbd⟩
          have HZ := Lib.hid (HCc.out.trans (hbd.mono HCc.out.size))
          clear hbd
          go_upto_region 14 with fail
          have hrz := HRB.out _ HZ.out
          have hrt := hrz.take q (by omega)
          rw [← bys_take] at hrt
          have HP2 := Lib.hid (parse_any A7 q c7 (b.take q) wz hrt (fun x hx => HBB.out x (List.mem_of_mem_take hx)) (by omega) (by omega) HC7.out)
          obtain ⟨er2, her2⟩ : ∃ er2 : Int, er2 = if parseOk (b.take q) then 0 else 2 := ⟨_, rfl⟩
          rw [← her2] at HP2
          have HER2 := Lib.hid her2
          have hsh := fun W => run_slice_h (P := Try.prog) W 25 5 i5 Try.underlying25 hi5 hy1 A7 m c7 q (by omega) .i64 ((q : Nat) : Int) rfl
          clear her2 hrz hrt
          go_wp2_with fail
          refine HP2.out.mono ?_
          rintro e wa ⟨va, rfl, hoa, hba, hoka, hla⟩
          have HA := Lib.hid (HZ.out.trans (hba.mono HZ.out.size))
          obtain ⟨Aa, ca, rfl, _, _, hra⟩ := own_rdN hoa
          have HRA := Lib.hid hra
          have HOKA := Lib.hid hoka
          clear hoa hba hoka hra hsh HP2
          cases hp2 : parseOk (b.take q) with
          | false =>
            rw [hp2, if_neg (by simp)] at HER2
            have he2 := HER2.out
            subst he2
            have HF := Lib.hid (HB3.out.trans ((HA.out.alloc HA.out.size (.cells #[.slice Aa (parL (b.take q)).length ca] 35)).mono HB3.out.size))
            go_wp2
            go_ret
            exact ⟨rfl, HF.out⟩
          | true =>
            have hpl : parL (b.take q) = (readM (b.take q)).1 := by unfold parL; rw [hp2, if_pos rfl]
            have HNE : Hid (decide (parL (b.take q) = L) = false) := Lib.hid (decide_eq_false (fun e => by
              have h1 := parse_made _ hp2
              rw [← hpl, e, HMKL.out] at h1
              injection h1 with h1 _
              have h2 := congrArg List.length h1
              rw [List.length_take, HML.out] at h2
              omega))
            rw [hp2, if_pos rfl] at HER2
            have he2 := HER2.out
            subst he2
            clear hpl hp2
            generalize parL (b.take q) = Q2 at *
            go_upto_region 15 with fail
            obtain ⟨wb, hwb⟩ : ∃ wb, wb = wa.alloc (.cells #[.slice Aa Q2.length ca] 35) := ⟨_, rfl⟩
            rw [← hwb]
            have bb : Below wa.heap.size wa wb := by rw [hwb]; exact (Below.refl _ _).alloc (Nat.le_refl _) _
            have cb : wb.cell? ⟨wa.heap.size, 0, none⟩ = some (.slice Aa Q2.length ca) := by rw [hwb, World.cell?_alloc_mark]; rfl
            obtain ⟨ga, hga⟩ : ∃ ga, ga = wa.heap.size := ⟨_, rfl⟩
            rw [← hga] at cb ⊢
            have HBb := Lib.hid (HA.out.trans (bb.mono HA.out.size))
            have hQl : (Q2.length : Int) ≤ 1000000 := by omega
            have HAL := Lib.hid (all_any Aa ca Q2 wb ((HRA.out.below bb).up bb.size) hQl)
            clear hwb bb hga
            go_wp2_with fail
            refine HAL.out.mono ?_
            rintro e wc ⟨vc, rfl, hoc, hbc⟩
            have HCc := Lib.hid (HBb.out.trans (hbc.mono HBb.out.size))
            obtain ⟨Ac, cc, rfl, _, _, hrc⟩ := own_rdN hoc
            have hrl := HRL.out _ HCc.out
            have HSM := Lib.hid (same_any Ac A cc c Q2 L wc hrc hrl (fun p hp => ⟨(HOKA.out p hp).1, (HOKA.out p hp).2.1⟩) HLB.out hQl (by have := HN.out; omega))
            rw [HNE.out, ← HN.out] at HSM
            clear hoc hbc hrc hrl cb
            go_wp2_with fail
            refine HSM.out.mono ?_
            rintro e wd ⟨rfl, hbd⟩
            have HF := Lib.hid (HB3.out.trans ((HCc.out.trans (hbd.mono HCc.out.size)).mono HB3.out.size))
            clear hbd
            go_wp2
            go_ret
            exact ⟨rfl, HF.out⟩
    · have hne : ((ev : Int) != 0) = true := by simp [bne]; omega
      go_wp2
      go_ret
      exact ⟨rfl, HB3.out⟩
end Go.Proofs.Ytalcdmpjpphopaa
