/- The walk of PageFroms. -/
import Derived.Test.YtalcdmpjpphopaaPG
namespace Go.Proofs.Ytalcdmpjpphopaa
set_option linter.unusedSimpArgs false
set_option linter.unusedVariables false
open Go.RowKit

theorem from_none (nm : List Nat) (w : World) : Calls Try.prog 17 #[.agg #[.slice none 0 0], .string (strB nm)] w fun e w' => ∃ A c, e = .returned (.slice A 0 c) ∧ Below w.heap.size w w' := by
  refine (show Calls Try.prog 17 #[.agg #[.slice none 0 0], .string (strB nm)] w _ from from_any none 0 [] nm w (RdN.nil _ _ _ _) (by decide) (Nat.le_refl _) (fun i j p q _ hp => by simp at hp)).mono ?_
  rintro e w' ⟨v, rfl, hv, hb⟩
  obtain ⟨A, c, rfl, _⟩ := own_rdN hv
  exact ⟨A, c, by simp, hb⟩
theorem all_none (w : World) : Calls Try.prog 16 #[.agg #[.slice none 0 0]] w fun e w' => ∃ A c, e = .returned (.slice A 0 c) ∧ Below w.heap.size w w' := by
  refine (show Calls Try.prog 16 #[.agg #[.slice none 0 0]] w _ from all_any none 0 [] w (RdN.nil _ _ _ _) (by decide)).mono ?_
  rintro e w' ⟨v, rfl, hv, hb⟩
  obtain ⟨A, c, rfl, _⟩ := own_rdN hv
  exact ⟨A, c, by simp, hb⟩
theorem prC2_drop : ∀ (L : List Pr) (k : Nat), prC2 (L.drop k) = (prC2 L).drop (k * 2)
  | [], k => by simp [prC2]
  | p :: r, 0 => by simp
  | p :: r, k + 1 => by
    rw [List.drop_succ_cons, prC2_drop r k, prC2, prC, show (k + 1) * 2 = k * 2 + 1 + 1 by omega]
    simp

set_option maxHeartbeats 4000000 in
set_option maxRecDepth 100000 in
theorem froms_walk (A : Option Addr) (c : Nat) (L : List Pr) (nm : List Nat) (w : World) (hr : RdN w w.heap.size 2 A L.length (prC2 L)) (hf : ∀ p ∈ L, fitP p) (hlen : L.length ≤ maxLen) (hlc : L.length ≤ c) (hnm : (strB nm).size ≤ maxLen) :
    Calls Try.prog 5 #[.slice A L.length c, .string (strB nm)] w fun e w' => e = .returned (.bool true) ∧ Below w.heap.size w w' := by
  have HBIG := Lib.hid (fun W (hb : Below w.heap.size w W) => big_any'' A c L W ((hr.below hb).up hb.size) hf hlen)
  have HR := Lib.hid hr
  have HS := Lib.hid hf
  have hlen' : (L.length : Int) ≤ 9223372036854775807 := by unfold maxLen at hlen; omega
  have HFN := Lib.hid (fun W => from_none nm W)
  have HFA := Lib.hid (fun (Aa : Option Addr) (ca : Nat) W hr hl hc hm => from_any Aa ca L nm W hr hl hc hm)
  have HMO := Lib.hid (mono_mk L nm)
  obtain ⟨P, hP⟩ : ∃ P, P = lob L nm := ⟨_, rfl⟩
  rw [← hP] at HFA
  have HP := Lib.hid hP
  have HPle : Hid (P ≤ L.length) := Lib.hid (by rw [hP]; exact lob_le L nm)
  have HLE := Lib.hid (fun (i : Nat) hi h1 h2 => hP.trans (lob_eq L nm i hi h1 h2))
  have HAH : Hid (∀ p : Pr, ahP nm p = Op.bytesLess (strB p.1).toList (strB nm).toList) := Lib.hid (fun _ => rfl)
  obtain ⟨bg, hbg⟩ : ∃ bg, bg = bigP L := ⟨_, rfl⟩
  rw [← hbg] at HBIG
  have HBG := Lib.hid hbg
  have HLC := Lib.hid hlc
  obtain ⟨S, hS⟩ : ∃ S, S = strB nm := ⟨_, rfl⟩
  rw [← hS] at HFN HFA HAH hnm ⊢
  have hs9 : (S.size : Int) ≤ 9223372036854775807 := by unfold maxLen at hnm; omega
  clear hr hf hlen hbg hP hlc hS hnm
  obtain ⟨N, hN⟩ : ∃ N, N = L.length := ⟨_, rfl⟩
  rw [← hN] at HBIG hlen' HFA ⊢
  have HN := Lib.hid hN
  clear hN
  go_enter Try.func5, Try.ntmps5
  go_upto_region 3 with (go_at_call 9; refine (head_any _).mono ?_; rintro e w1 ⟨rfl, hb1⟩)
  have HB1 := Lib.hid hb1
  have s1 := hb1.size
  clear hb1
  go_wp2_with fail
  refine (HBIG.out _ HB1.out).mono ?_
  rintro e w2 ⟨rfl, hb2⟩
  have HB2 := Lib.hid (HB1.out.trans (hb2.mono s1))
  clear HBIG hb2
  cases bg with
  | true =>
    go_wp2
    go_ret
    exact ⟨rfl, HB2.out⟩
  | false =>
    by_cases hs3 : (300 : Int) < (S.size : Int)
    · go_wp2
      go_ret
      exact ⟨rfl, HB2.out⟩
    · have hno := bigP_no L HBG.out.symm
      have h60 : (N : Int) ≤ 60 := by have := hno.1; have := HN.out; omega
      have HOK : Hid (∀ p ∈ L, okP p) := Lib.hid (fun p hp => ⟨(HS.out p hp).1, (HS.out p hp).2.1, by have := hno.2 p hp; omega, by have := hno.2 p hp; omega⟩)
      have HLB : Hid (∀ p ∈ L, (∀ x ∈ p.1, x < 256) ∧ ∀ x ∈ p.2, x < 256) := Lib.hid (fun p hp => ⟨(HS.out p hp).1, (HS.out p hp).2.1⟩)
      have HM1 := Lib.hid (make_any A c L w2 ((HR.out.below HB2.out).up HB2.out.size) HOK.out (by have := HN.out; omega))
      rw [← HN.out] at HM1
      have HMB := Lib.hid (mk_bytes L HOK.out)
      have HMS := Lib.hid (mkGo_small L 0 [] [] [] (by simp))
      have HPM := Lib.hid (parse_mk L HOK.out (by have := HN.out; omega))
      clear hno HBG
      obtain ⟨b, hbE⟩ : ∃ b, b = (mk L).1 := ⟨_, rfl⟩
      obtain ⟨ev, hev⟩ : ∃ ev, ev = (mk L).2 := ⟨_, rfl⟩
      rw [← hbE] at HM1 HMB HPM
      rw [← hev] at HM1 HPM HMO
      have HMS2 : Hid ((b.length : Int) ≤ 300000) := Lib.hid (by have h1 := HMS.out; have h2 := HN.out; rw [hbE]; unfold mk; simp only [List.length_nil, Nat.zero_add] at h1; omega)
      clear hbE hev HMS
      go_wp2_with fail
      refine HM1.out.mono ?_
      rintro e w3 ⟨v3, rfl, hf3, hb3⟩
      have HB3 := Lib.hid (HB2.out.trans (hb3.mono HB2.out.size))
      have hq7 : ∃ A7 c7, v3 = .slice A7 b.length c7 ∧ b.length ≤ c7 ∧ c7 ≤ maxLen ∧ Rd w3 w3.heap.size A7 b.length (bys b) := by
        obtain ⟨A, c, rfl, h1, h2⟩ := hf3.slice
        exact ⟨A, c, rfl, h1, hf3.cap_le, h2⟩
      obtain ⟨A7, c7, rfl, hm7, hc7, hr7⟩ := hq7
      clear hf3 hb3 HM1
      by_cases hev : ev = 0
      · subst hev
        obtain ⟨hpo, hpl⟩ := HPM.out rfl
        have hm := HMO.out rfl
        have hb9 := HMS2.out
        have HPA := Lib.hid (parse_any A7 b.length c7 b w3 hr7 HMB.out (by omega) hm7 hc7)
        rw [hpo, hpl, if_pos rfl] at HPA
        have HM := Lib.hid hm
        clear hpo hpl hm hr7 hc7 HPM HMO HMS2 HMB
        go_wp2_with fail
        refine HPA.out.mono ?_
        rintro e wa ⟨va, rfl, hoa, hba, _, _⟩
        have HA := Lib.hid (HB3.out.trans (hba.mono HB3.out.size))
        obtain ⟨Aa, ca, rfl, hna, _, hra⟩ := own_rdN hoa
        clear hoa hba HPA hm7 hb9
        go_upto_region 12 with fail
        obtain ⟨wb, hwb⟩ : ∃ wb, wb = wa.alloc (.cells #[.slice Aa L.length ca] 35) := ⟨_, rfl⟩
        rw [← hwb]
        have bb : Below wa.heap.size wa wb := by rw [hwb]; exact (Below.refl _ _).alloc (Nat.le_refl _) _
        have cb : wb.cell? ⟨wa.heap.size, 0, none⟩ = some (.slice Aa L.length ca) := by rw [hwb, World.cell?_alloc_mark]; rfl
        have lb : wa.heap.size < wb.heap.size := World.block_lt_of_cell? _ _ cb
        obtain ⟨ga, hga⟩ : ∃ ga, ga = wa.heap.size := ⟨_, rfl⟩
        have HRA := Lib.hid ((hra.below bb).up bb.size)
        have HBb := Lib.hid (HA.out.trans (bb.mono HA.out.size))
        rw [← hga] at cb lb ⊢
        have HCB := Lib.hid cb
        have HNA := Lib.hid hna
        clear hwb bb hga hra cb hna
        go_loopg [9] N (fun kx v9 wr => ∃ k : Nat, k ≤ N ∧ N - k ≤ kx ∧ v9 = .int .i64 (k : Int) ∧ wr = wb ∧ Hid (∀ m y, m < k → L[m]? = some y → ahP nm y = true))
        case atStart => exact ⟨0, Nat.zero_le _, Nat.le_refl _, rfl, rfl, Lib.hid (fun m y h _ => absurd h (by omega))⟩
        case round =>
          obtain ⟨k, hkN, hkx, rfl, rfl, HI⟩ := hrel
          by_cases hlt : k < N
          · have hlt' : (k : Int) < (N : Int) := by omega
            obtain ⟨y, hy⟩ : ∃ y, L[k]? = some y := ⟨_, List.getElem?_eq_getElem (by have := HN.out; omega)⟩
            have HY := Lib.hid hy
            obtain ⟨g, off, rfl, _, c0, c1⟩ := (HR.out.below HBb.out).pr k y hy
            have hah := HAH.out y
            clear hy
            cases h1 : Op.bytesLess (strB y.1).toList S.toList
            · rw [h1] at hah
              have HA0 := Lib.hid hah
              clear hah
              go_upto_region 14 with fail
              clear c0 c1 h1
              have HPK : Hid (P = k) := Lib.hid (HLE.out k (by have := HN.out; omega) HI.out (fun y hy => by rw [HY.out] at hy; cases hy; exact HA0.out))
              have hk := HPK.out
              subst hk
              clear HI
              obtain ⟨D, hD⟩ : ∃ D, D = L.drop P := ⟨_, rfl⟩
              rw [← hD] at HFA
              have hdl : D.length = N - P := by rw [hD, List.length_drop, HN.out]
              rw [hdl] at HFA
              obtain ⟨d, hd⟩ : ∃ d, d = N - P := ⟨_, rfl⟩
              rw [← hd] at HFA hdl
              have hd6 : (d : Int) ≤ 60 := by omega
              obtain ⟨A2, hA2⟩ : ∃ A2 : Option Addr, A2 = (if c = P then (some ⟨g, off, none⟩) else ((some ⟨g, off, none⟩) : Option Addr).map (·.add (P * 2))) := ⟨_, rfl⟩
              have HSE : Hid ((if c = P then (some ⟨g, off, none⟩) else ((some ⟨g, off, none⟩) : Option Addr).map (·.add (P * 2))) = A2 ∧ N - P = d ∧ c - P = c - P) := Lib.hid ⟨hA2.symm, hd.symm, rfl⟩
              have HBt := Lib.hid HBb.out
              have HRD : Hid (∀ W, Below w.heap.size w W → RdN W W.heap.size 2 A2 D.length (prC2 D)) := Lib.hid (fun W hb => by
                have h := ((HR.out.below hb).up hb.size).drop P c (by have := HN.out; omega) HLC.out
                rw [hA2, hD, List.length_drop, prC2_drop]
                exact h)
              have HDB : Hid (∀ p ∈ D, (∀ x ∈ p.1, x < 256) ∧ ∀ x ∈ p.2, x < 256) := Lib.hid (fun p hp => HLB.out p (List.mem_of_mem_drop (by rw [hD] at hp; exact hp)))
              have HSM : Hid (∀ W A1 c1, Below w.heap.size w W → RdN W W.heap.size 2 A1 d (prC2 D) → Calls Try.prog 15 #[.slice A1 d c1, .slice A2 d (c - P)] W fun e w' => e = .returned (.bool true) ∧ Below W.heap.size W w') := Lib.hid (fun W A1 c1 hb hr => by
                have h := same_any A1 A2 c1 (c - P) D D W (by rw [hdl]; exact hr) (HRD.out W hb) HDB.out HDB.out (by omega) (by omega)
                rw [decide_eq_true (rfl : D = D), hdl] at h
                exact h)
              have HFR : Hid (∀ W, Below wr.heap.size wr W → Calls Try.prog 17 #[.agg #[.slice Aa N ca], .string S] W fun e w' => ∃ A1 c1, e = .returned (.slice A1 d c1) ∧ RdN w' w'.heap.size 2 A1 d (prC2 D) ∧ Below W.heap.size W w') := Lib.hid (fun W hb => by
                refine (HFA.out Aa ca W (by rw [HN.out]; exact (HRA.out.below hb).up hb.size) (by omega) (by rw [HN.out]; exact HNA.out) HM.out).mono ?_
                rintro e w' ⟨v, rfl, hv, hb'⟩
                obtain ⟨A1, c1, rfl, _, _, h⟩ := own_rdN hv
                exact ⟨A1, c1, rfl, h, hb'⟩)
              have HCB2 := Lib.hid HCB.out
              rw [← HN.out] at HCB2
              obtain ⟨c2, hc2⟩ : ∃ c2, c2 = c - P := ⟨_, rfl⟩
              rw [← hc2] at HSM
              have HSE := Lib.hid (show _ ∧ _ ∧ c - P = c2 from ⟨HSE.out.1, HSE.out.2.1, hc2.symm⟩)
              clear hc2
              clear HCB hD hdl hd hA2 HRD HDB HFA HR HS HLE HAH HPle HP HLB HOK HRA HNA HM HN
              go_upto_region 15 with fail
              obtain ⟨wc, hwc⟩ : ∃ wc, wc = wr.alloc (.cells #[.slice none 0 0] 35) := ⟨_, rfl⟩
              rw [← hwc]
              have bc : Below wr.heap.size wr wc := by rw [hwc]; exact (Below.refl _ _).alloc (Nat.le_refl _) _
              have cc : wc.cell? ⟨wr.heap.size, 0, none⟩ = some (.slice none 0 0) := by rw [hwc, World.cell?_alloc_mark]; rfl
              have lc : wr.heap.size < wc.heap.size := World.block_lt_of_cell? _ _ cc
              have ca' : wc.cell? ⟨ga, 0, none⟩ = some (.slice Aa N ca) := (bc.cell (p := ⟨ga, 0, none⟩) lb).trans HCB2.out
              have la : ga < wc.heap.size := World.block_lt_of_cell? _ _ ca'
              obtain ⟨gz, hgz⟩ : ∃ gz, gz = wr.heap.size := ⟨_, rfl⟩
              have HBC := Lib.hid bc
              rw [← hgz] at cc lc ⊢
              have HKP : Hid (∀ wx : World, Below wc.heap.size wc wx → wx.cell? ⟨ga, 0, none⟩ = some (.slice Aa N ca) ∧ wx.cell? ⟨gz, 0, none⟩ = some (.slice none 0 0)) := Lib.hid fun wx hb =>
                ⟨(hb.cell (p := ⟨ga, 0, none⟩) la).trans ca', (hb.cell (p := ⟨gz, 0, none⟩) lc).trans cc⟩
              have HBW := Lib.hid (fun (wx : World) (hb : Below wc.heap.size wc wx) => HBt.out.trans ((bc.trans (hb.mono bc.size)).mono HBt.out.size))
              clear hwc bc cc lc ca' la hgz HBt HBb lb
              refine wp_region_noPanic ?_
              refine wp_region_held_drew (S := (fun wx => wx.cell? ⟨ga, 0, none⟩ = some (.slice Aa N ca) ∧ wx.cell? ⟨gz, 0, none⟩ = some (.slice none 0 0))) (by kernel_rfl) (HKP.out _ (Below.refl _ _).drew) (fun hHeld => ?_)
              refine wpAnyH_take (i := 0) (v := ?_) (by simp only [List.getElem?_toArray, List.getElem?_cons_succ, List.getElem?_cons_zero]; rfl) (by kernel_rfl) (by kernel_rfl) (by kernel_rfl) (fun _ _ _ h => h) (Or.inl ⟨by rfl, ?_⟩) (by assumption) ?_
              rotate_left
              · (intro w hSw; (try dsimp only at hSw); go_simp; (try with_reducible rfl))
              (try simp only [Act.put, List.setIfInBounds_toArray, List.set_cons_zero, List.set_cons_succ])
              refine wpAnyH_take (i := 1) (v := ?_) (by simp only [List.getElem?_toArray, List.getElem?_cons_succ, List.getElem?_cons_zero]; rfl) (by kernel_rfl) (by kernel_rfl) (by kernel_rfl) (fun _ _ _ h => h) (Or.inl ⟨by rfl, ?_⟩) (by assumption) ?_
              rotate_left
              · (intro w hSw; (try dsimp only at hSw); go_simp; (try with_reducible rfl))
              (try simp only [Act.put, List.setIfInBounds_toArray, List.set_cons_zero, List.set_cons_succ])
              refine wpAnyH_take (i := 3) (v := ?_) (by simp only [List.getElem?_toArray, List.getElem?_cons_succ, List.getElem?_cons_zero]; rfl) (by kernel_rfl) (by kernel_rfl) (by kernel_rfl) (fun _ _ _ h => h) (Or.inl ⟨by rfl, ?_⟩) (by assumption) ?_
              rotate_left
              · (intro w hSw; (try dsimp only at hSw); go_simp; (try with_reducible rfl))
              (try simp only [Act.put, List.setIfInBounds_toArray, List.set_cons_zero, List.set_cons_succ])
              refine wpAnyH_take (i := 4) (v := ?_) (by simp only [List.getElem?_toArray, List.getElem?_cons_succ, List.getElem?_cons_zero]; rfl) (by kernel_rfl) (by kernel_rfl) (by kernel_rfl) (fun _ _ _ h => h) (Or.inl ⟨by rfl, ?_⟩) (by assumption) ?_
              rotate_left
              · (intro w hSw; (try dsimp only at hSw); go_simp; (try with_reducible rfl))
              (try simp only [Act.put, List.setIfInBounds_toArray, List.set_cons_zero, List.set_cons_succ])
              refine wpAnyH_take (i := 5) (v := .slice A2 d c2) (by simp only [List.getElem?_toArray, List.getElem?_cons_succ, List.getElem?_cons_zero]; rfl) (by kernel_rfl) (by kernel_rfl) (by kernel_rfl) (fun _ _ _ h => h) (Or.inl ⟨by rfl, ?_⟩) (by assumption) ?_
              · (intro w hSw; (try dsimp only at hSw); go_simp; (first | exact HSE.out | (have h := HSE.out; simp [Addr.add_lit] at h; exact h) | (have h := HSE.out; rw [Option.map_some, Addr.add_lit] at h; exact h)))
              (try simp only [Act.put, List.setIfInBounds_toArray, List.set_cons_zero, List.set_cons_succ])
              refine wpAnyH_ready (rs := [2]) (by kernel_rfl) (by simp) ?_
              refine AllReadyH.cons (by simp only [List.getElem?_toArray, List.getElem?_cons_succ, List.getElem?_cons_zero]; rfl) (fun K hK => ?_) AllReadyH.nil
              go_simp
              refine (HFR.out _ HBC.out.drew).mono ?_
              rintro ee wd ⟨A1, c1, rfl, hr1, hb1'⟩
              have hB1 : Below wc.heap.size wc wd := (Below.refl _ _).drew.trans hb1'
              have HR1 := Lib.hid hr1
              have HBd := Lib.hid hB1
              refine hK.out _ _ ?_ (fun hHeld => ?_)
              · exact HKP.out _ hB1
              clear hK K
              (try simp only [Act.put, List.setIfInBounds_toArray, List.set_cons_zero, List.set_cons_succ])
              clear hr1 hb1' hB1
              refine wpAnyH_ready (rs := [6]) (by kernel_rfl) (by simp) ?_
              refine AllReadyH.cons (by simp only [List.getElem?_toArray, List.getElem?_cons_succ, List.getElem?_cons_zero]; rfl) (fun K hK => ?_) AllReadyH.nil
              go_simp
              refine (HSM.out _ A1 c1 (HBW.out _ HBd.out) HR1.out).mono ?_
              rintro ee we ⟨rfl, hb1'⟩
              have hB1 : Below wc.heap.size wc we := HBd.out.trans (hb1'.mono HBd.out.size)
              have HBe := Lib.hid hB1
              refine hK.out _ _ ?_ (fun hHeld => ?_)
              · exact HKP.out _ hB1
              clear hK K
              (try simp only [Act.put, List.setIfInBounds_toArray, List.set_cons_zero, List.set_cons_succ])
              clear hb1' hB1
              refine wpAnyH_take (i := 7) (v := ?_) (by simp only [List.getElem?_toArray, List.getElem?_cons_succ, List.getElem?_cons_zero]; rfl) (by kernel_rfl) (by kernel_rfl) (by kernel_rfl) (fun _ _ _ h => h) (Or.inl ⟨by rfl, ?_⟩) (by assumption) ?_
              rotate_left
              · (intro w hSw; (try dsimp only at hSw); go_simp; (try with_reducible rfl))
              (try simp only [Act.put, List.setIfInBounds_toArray, List.set_cons_zero, List.set_cons_succ])
              refine wpAnyH_take (i := 8) (v := ?_) (by simp only [List.getElem?_toArray, List.getElem?_cons_succ, List.getElem?_cons_zero]; rfl) (by kernel_rfl) (by kernel_rfl) (by kernel_rfl) (fun _ _ _ h => h) (Or.inl ⟨by rfl, ?_⟩) (by assumption) ?_
              rotate_left
              · (intro w hSw; (try dsimp only at hSw); go_simp; (try with_reducible rfl))
              (try simp only [Act.put, List.setIfInBounds_toArray, List.set_cons_zero, List.set_cons_succ])
              refine wpAnyH_ready (rs := [9]) (by kernel_rfl) (by simp) ?_
              refine AllReadyH.cons (by simp only [List.getElem?_toArray, List.getElem?_cons_succ, List.getElem?_cons_zero]; rfl) (fun K hK => ?_) AllReadyH.nil
              go_simp
              refine (all_none _).mono ?_
              rintro ee wf ⟨A3, c3, rfl, hb1'⟩
              have hB1 : Below wc.heap.size wc wf := HBe.out.trans (hb1'.mono HBe.out.size)
              have HBf := Lib.hid hB1
              refine hK.out _ _ ?_ (fun hHeld => ?_)
              · exact HKP.out _ hB1
              clear hK K
              (try simp only [Act.put, List.setIfInBounds_toArray, List.set_cons_zero, List.set_cons_succ])
              clear hb1' hB1
              refine wpAnyH_take (i := 10) (v := ?_) (by simp only [List.getElem?_toArray, List.getElem?_cons_succ, List.getElem?_cons_zero]; rfl) (by kernel_rfl) (by kernel_rfl) (by kernel_rfl) (fun _ _ _ h => h) (Or.inl ⟨by rfl, ?_⟩) (by assumption) ?_
              rotate_left
              · (intro w hSw; (try dsimp only at hSw); go_simp; (try with_reducible rfl))
              (try simp only [Act.put, List.setIfInBounds_toArray, List.set_cons_zero, List.set_cons_succ])
              refine wpAnyH_take (i := 11) (v := ?_) (by simp only [List.getElem?_toArray, List.getElem?_cons_succ, List.getElem?_cons_zero]; rfl) (by kernel_rfl) (by kernel_rfl) (by kernel_rfl) (fun _ _ _ h => h) (Or.inl ⟨by rfl, ?_⟩) (by assumption) ?_
              rotate_left
              · (intro w hSw; (try dsimp only at hSw); go_simp; (try with_reducible rfl))
              (try simp only [Act.put, List.setIfInBounds_toArray, List.set_cons_zero, List.set_cons_succ])
              refine wpAnyH_take (i := 12) (v := ?_) (by simp only [List.getElem?_toArray, List.getElem?_cons_succ, List.getElem?_cons_zero]; rfl) (by kernel_rfl) (by kernel_rfl) (by kernel_rfl) (fun _ _ _ h => h) (Or.inl ⟨by rfl, ?_⟩) (by assumption) ?_
              rotate_left
              · (intro w hSw; (try dsimp only at hSw); go_simp; (try with_reducible rfl))
              (try simp only [Act.put, List.setIfInBounds_toArray, List.set_cons_zero, List.set_cons_succ])
              refine wpAnyH_take (i := 13) (v := ?_) (by simp only [List.getElem?_toArray, List.getElem?_cons_succ, List.getElem?_cons_zero]; rfl) (by kernel_rfl) (by kernel_rfl) (by kernel_rfl) (fun _ _ _ h => h) (Or.inl ⟨by rfl, ?_⟩) (by assumption) ?_
              rotate_left
              · (intro w hSw; (try dsimp only at hSw); go_simp; (try with_reducible rfl))
              (try simp only [Act.put, List.setIfInBounds_toArray, List.set_cons_zero, List.set_cons_succ])
              refine wpAnyH_take (i := 14) (v := ?_) (by simp only [List.getElem?_toArray, List.getElem?_cons_succ, List.getElem?_cons_zero]; rfl) (by kernel_rfl) (by kernel_rfl) (by kernel_rfl) (fun _ _ _ h => h) (Or.inl ⟨by rfl, ?_⟩) (by assumption) ?_
              rotate_left
              · (intro w hSw; (try dsimp only at hSw); go_simp; (try with_reducible rfl))
              (try simp only [Act.put, List.setIfInBounds_toArray, List.set_cons_zero, List.set_cons_succ])
              refine wpAnyH_take (i := 15) (v := ?_) (by simp only [List.getElem?_toArray, List.getElem?_cons_succ, List.getElem?_cons_zero]; rfl) (by kernel_rfl) (by kernel_rfl) (by kernel_rfl) (fun _ _ _ h => h) (Or.inl ⟨by rfl, ?_⟩) (by assumption) ?_
              rotate_left
              · (intro w hSw; (try dsimp only at hSw); go_simp; (try with_reducible rfl))
              (try simp only [Act.put, List.setIfInBounds_toArray, List.set_cons_zero, List.set_cons_succ])
              refine wpAnyH_ready (rs := [16]) (by kernel_rfl) (by simp) ?_
              refine AllReadyH.cons (by simp only [List.getElem?_toArray, List.getElem?_cons_succ, List.getElem?_cons_zero]; rfl) (fun K hK => ?_) AllReadyH.nil
              go_simp
              refine (HFN.out _).mono ?_
              rintro ee wg ⟨A4, c4, rfl, hb1'⟩
              have hB1 : Below wc.heap.size wc wg := HBf.out.trans (hb1'.mono HBf.out.size)
              have HBg := Lib.hid hB1
              refine hK.out _ _ ?_ (fun hHeld => ?_)
              · exact HKP.out _ hB1
              clear hK K
              (try simp only [Act.put, List.setIfInBounds_toArray, List.set_cons_zero, List.set_cons_succ])
              clear hb1' hB1
              refine wpAnyH_take (i := 17) (v := ?_) (by simp only [List.getElem?_toArray, List.getElem?_cons_succ, List.getElem?_cons_zero]; rfl) (by kernel_rfl) (by kernel_rfl) (by kernel_rfl) (fun _ _ _ h => h) (Or.inl ⟨by rfl, ?_⟩) (by assumption) ?_
              rotate_left
              · (intro w hSw; (try dsimp only at hSw); go_simp; (try with_reducible rfl))
              (try simp only [Act.put, List.setIfInBounds_toArray, List.set_cons_zero, List.set_cons_succ])
              refine wpAnyH_take (i := 18) (v := ?_) (by simp only [List.getElem?_toArray, List.getElem?_cons_succ, List.getElem?_cons_zero]; rfl) (by kernel_rfl) (by kernel_rfl) (by kernel_rfl) (fun _ _ _ h => h) (Or.inl ⟨by rfl, ?_⟩) (by assumption) ?_
              rotate_left
              · (intro w hSw; (try dsimp only at hSw); go_simp; (try with_reducible rfl))
              (try simp only [Act.put, List.setIfInBounds_toArray, List.set_cons_zero, List.set_cons_succ])
              refine wpAnyH_take (i := 19) (v := ?_) (by simp only [List.getElem?_toArray, List.getElem?_cons_succ, List.getElem?_cons_zero]; rfl) (by kernel_rfl) (by kernel_rfl) (by kernel_rfl) (fun _ _ _ h => h) (Or.inl ⟨by rfl, ?_⟩) (by assumption) ?_
              rotate_left
              · (intro w hSw; (try dsimp only at hSw); go_simp; (try with_reducible rfl))
              (try simp only [Act.put, List.setIfInBounds_toArray, List.set_cons_zero, List.set_cons_succ])
              refine wpAnyH_take (i := 20) (v := ?_) (by simp only [List.getElem?_toArray, List.getElem?_cons_succ, List.getElem?_cons_zero]; rfl) (by kernel_rfl) (by kernel_rfl) (by kernel_rfl) (fun _ _ _ h => h) (Or.inl ⟨by rfl, ?_⟩) (by assumption) ?_
              rotate_left
              · (intro w hSw; (try dsimp only at hSw); go_simp; (try with_reducible rfl))
              (try simp only [Act.put, List.setIfInBounds_toArray, List.set_cons_zero, List.set_cons_succ])
              refine wpAnyH_done (by kernel_rfl) ?_ _
              refine NoPanic.normal ?_
              clear hHeld
              go_wp2
              go_ret
              exact ⟨rfl, HBW.out _ HBg.out⟩
            · rw [h1] at hah
              have HA0 := Lib.hid hah
              clear hah
              go_wp2
              go_roundg (N - (k + 1))
              case measure => omega
              case rel =>
                refine ⟨k + 1, by omega, Nat.le_refl _, by go_num, rfl, Lib.hid (fun m z hm hz => ?_)⟩
                rcases Nat.lt_or_eq_of_le (Nat.le_of_lt_succ hm) with h | h
                · exact HI.out m z h hz
                · subst h
                  rw [HY.out] at hz; cases hz
                  exact HA0.out
          · have hlt' : ¬ (k : Int) < (N : Int) := by omega
            go_upto_region 14 with fail
            have HPK : Hid (P = k) := Lib.hid (HLE.out k (by have := HN.out; omega) HI.out (fun y hy => by have := (List.getElem?_eq_some_iff.1 hy).1; have := HN.out; omega))
            have hk := HPK.out
            subst hk
            clear HI
            obtain ⟨D, hD⟩ : ∃ D, D = L.drop P := ⟨_, rfl⟩
            rw [← hD] at HFA
            have hdl : D.length = N - P := by rw [hD, List.length_drop, HN.out]
            rw [hdl] at HFA
            obtain ⟨d, hd⟩ : ∃ d, d = N - P := ⟨_, rfl⟩
            rw [← hd] at HFA hdl
            have hd6 : (d : Int) ≤ 60 := by omega
            obtain ⟨A2, hA2⟩ : ∃ A2 : Option Addr, A2 = (if c = P then A else (A : Option Addr).map (·.add (P * 2))) := ⟨_, rfl⟩
            have HSE : Hid ((if c = P then A else (A : Option Addr).map (·.add (P * 2))) = A2 ∧ N - P = d ∧ c - P = c - P) := Lib.hid ⟨hA2.symm, hd.symm, rfl⟩
            have HBt := Lib.hid HBb.out
            have HRD : Hid (∀ W, Below w.heap.size w W → RdN W W.heap.size 2 A2 D.length (prC2 D)) := Lib.hid (fun W hb => by
              have h := ((HR.out.below hb).up hb.size).drop P c (by have := HN.out; omega) HLC.out
              rw [hA2, hD, List.length_drop, prC2_drop]
              exact h)
            have HDB : Hid (∀ p ∈ D, (∀ x ∈ p.1, x < 256) ∧ ∀ x ∈ p.2, x < 256) := Lib.hid (fun p hp => HLB.out p (List.mem_of_mem_drop (by rw [hD] at hp; exact hp)))
            have HSM : Hid (∀ W A1 c1, Below w.heap.size w W → RdN W W.heap.size 2 A1 d (prC2 D) → Calls Try.prog 15 #[.slice A1 d c1, .slice A2 d (c - P)] W fun e w' => e = .returned (.bool true) ∧ Below W.heap.size W w') := Lib.hid (fun W A1 c1 hb hr => by
              have h := same_any A1 A2 c1 (c - P) D D W (by rw [hdl]; exact hr) (HRD.out W hb) HDB.out HDB.out (by omega) (by omega)
              rw [decide_eq_true (rfl : D = D), hdl] at h
              exact h)
            have HFR : Hid (∀ W, Below wr.heap.size wr W → Calls Try.prog 17 #[.agg #[.slice Aa N ca], .string S] W fun e w' => ∃ A1 c1, e = .returned (.slice A1 d c1) ∧ RdN w' w'.heap.size 2 A1 d (prC2 D) ∧ Below W.heap.size W w') := Lib.hid (fun W hb => by
              refine (HFA.out Aa ca W (by rw [HN.out]; exact (HRA.out.below hb).up hb.size) (by omega) (by rw [HN.out]; exact HNA.out) HM.out).mono ?_
              rintro e w' ⟨v, rfl, hv, hb'⟩
              obtain ⟨A1, c1, rfl, _, _, h⟩ := own_rdN hv
              exact ⟨A1, c1, rfl, h, hb'⟩)
            have HCB2 := Lib.hid HCB.out
            rw [← HN.out] at HCB2
            obtain ⟨c2, hc2⟩ : ∃ c2, c2 = c - P := ⟨_, rfl⟩
            rw [← hc2] at HSM
            have HSE := Lib.hid (show _ ∧ _ ∧ c - P = c2 from ⟨HSE.out.1, HSE.out.2.1, hc2.symm⟩)
            clear hc2
            clear HCB hD hdl hd hA2 HRD HDB HFA HR HS HLE HAH HPle HP HLB HOK HRA HNA HM HN
            go_upto_region 15 with fail
            obtain ⟨wc, hwc⟩ : ∃ wc, wc = wr.alloc (.cells #[.slice none 0 0] 35) := ⟨_, rfl⟩
            rw [← hwc]
            have bc : Below wr.heap.size wr wc := by rw [hwc]; exact (Below.refl _ _).alloc (Nat.le_refl _) _
            have cc : wc.cell? ⟨wr.heap.size, 0, none⟩ = some (.slice none 0 0) := by rw [hwc, World.cell?_alloc_mark]; rfl
            have lc : wr.heap.size < wc.heap.size := World.block_lt_of_cell? _ _ cc
            have ca' : wc.cell? ⟨ga, 0, none⟩ = some (.slice Aa N ca) := (bc.cell (p := ⟨ga, 0, none⟩) lb).trans HCB2.out
            have la : ga < wc.heap.size := World.block_lt_of_cell? _ _ ca'
            obtain ⟨gz, hgz⟩ : ∃ gz, gz = wr.heap.size := ⟨_, rfl⟩
            have HBC := Lib.hid bc
            rw [← hgz] at cc lc ⊢
            have HKP : Hid (∀ wx : World, Below wc.heap.size wc wx → wx.cell? ⟨ga, 0, none⟩ = some (.slice Aa N ca) ∧ wx.cell? ⟨gz, 0, none⟩ = some (.slice none 0 0)) := Lib.hid fun wx hb =>
              ⟨(hb.cell (p := ⟨ga, 0, none⟩) la).trans ca', (hb.cell (p := ⟨gz, 0, none⟩) lc).trans cc⟩
            have HBW := Lib.hid (fun (wx : World) (hb : Below wc.heap.size wc wx) => HBt.out.trans ((bc.trans (hb.mono bc.size)).mono HBt.out.size))
            clear hwc bc cc lc ca' la hgz HBt HBb lb
            refine wp_region_noPanic ?_
            refine wp_region_held_drew (S := (fun wx => wx.cell? ⟨ga, 0, none⟩ = some (.slice Aa N ca) ∧ wx.cell? ⟨gz, 0, none⟩ = some (.slice none 0 0))) (by kernel_rfl) (HKP.out _ (Below.refl _ _).drew) (fun hHeld => ?_)
            refine wpAnyH_take (i := 0) (v := ?_) (by simp only [List.getElem?_toArray, List.getElem?_cons_succ, List.getElem?_cons_zero]; rfl) (by kernel_rfl) (by kernel_rfl) (by kernel_rfl) (fun _ _ _ h => h) (Or.inl ⟨by rfl, ?_⟩) (by assumption) ?_
            rotate_left
            · (intro w hSw; (try dsimp only at hSw); go_simp; (try with_reducible rfl))
            (try simp only [Act.put, List.setIfInBounds_toArray, List.set_cons_zero, List.set_cons_succ])
            refine wpAnyH_take (i := 1) (v := ?_) (by simp only [List.getElem?_toArray, List.getElem?_cons_succ, List.getElem?_cons_zero]; rfl) (by kernel_rfl) (by kernel_rfl) (by kernel_rfl) (fun _ _ _ h => h) (Or.inl ⟨by rfl, ?_⟩) (by assumption) ?_
            rotate_left
            · (intro w hSw; (try dsimp only at hSw); go_simp; (try with_reducible rfl))
            (try simp only [Act.put, List.setIfInBounds_toArray, List.set_cons_zero, List.set_cons_succ])
            refine wpAnyH_take (i := 3) (v := ?_) (by simp only [List.getElem?_toArray, List.getElem?_cons_succ, List.getElem?_cons_zero]; rfl) (by kernel_rfl) (by kernel_rfl) (by kernel_rfl) (fun _ _ _ h => h) (Or.inl ⟨by rfl, ?_⟩) (by assumption) ?_
            rotate_left
            · (intro w hSw; (try dsimp only at hSw); go_simp; (try with_reducible rfl))
            (try simp only [Act.put, List.setIfInBounds_toArray, List.set_cons_zero, List.set_cons_succ])
            refine wpAnyH_take (i := 4) (v := ?_) (by simp only [List.getElem?_toArray, List.getElem?_cons_succ, List.getElem?_cons_zero]; rfl) (by kernel_rfl) (by kernel_rfl) (by kernel_rfl) (fun _ _ _ h => h) (Or.inl ⟨by rfl, ?_⟩) (by assumption) ?_
            rotate_left
            · (intro w hSw; (try dsimp only at hSw); go_simp; (try with_reducible rfl))
            (try simp only [Act.put, List.setIfInBounds_toArray, List.set_cons_zero, List.set_cons_succ])
            refine wpAnyH_take (i := 5) (v := .slice A2 d c2) (by simp only [List.getElem?_toArray, List.getElem?_cons_succ, List.getElem?_cons_zero]; rfl) (by kernel_rfl) (by kernel_rfl) (by kernel_rfl) (fun _ _ _ h => h) (Or.inl ⟨by rfl, ?_⟩) (by assumption) ?_
            · (intro w hSw; (try dsimp only at hSw); go_simp; (first | exact HSE.out | (have h := HSE.out; simp [Addr.add_lit] at h; exact h) | (have h := HSE.out; rw [Option.map_some, Addr.add_lit] at h; exact h)))
            (try simp only [Act.put, List.setIfInBounds_toArray, List.set_cons_zero, List.set_cons_succ])
            refine wpAnyH_ready (rs := [2]) (by kernel_rfl) (by simp) ?_
            refine AllReadyH.cons (by simp only [List.getElem?_toArray, List.getElem?_cons_succ, List.getElem?_cons_zero]; rfl) (fun K hK => ?_) AllReadyH.nil
            go_simp
            refine (HFR.out _ HBC.out.drew).mono ?_
            rintro ee wd ⟨A1, c1, rfl, hr1, hb1'⟩
            have hB1 : Below wc.heap.size wc wd := (Below.refl _ _).drew.trans hb1'
            have HR1 := Lib.hid hr1
            have HBd := Lib.hid hB1
            refine hK.out _ _ ?_ (fun hHeld => ?_)
            · exact HKP.out _ hB1
            clear hK K
            (try simp only [Act.put, List.setIfInBounds_toArray, List.set_cons_zero, List.set_cons_succ])
            clear hr1 hb1' hB1
            refine wpAnyH_ready (rs := [6]) (by kernel_rfl) (by simp) ?_
            refine AllReadyH.cons (by simp only [List.getElem?_toArray, List.getElem?_cons_succ, List.getElem?_cons_zero]; rfl) (fun K hK => ?_) AllReadyH.nil
            go_simp
            refine (HSM.out _ A1 c1 (HBW.out _ HBd.out) HR1.out).mono ?_
            rintro ee we ⟨rfl, hb1'⟩
            have hB1 : Below wc.heap.size wc we := HBd.out.trans (hb1'.mono HBd.out.size)
            have HBe := Lib.hid hB1
            refine hK.out _ _ ?_ (fun hHeld => ?_)
            · exact HKP.out _ hB1
            clear hK K
            (try simp only [Act.put, List.setIfInBounds_toArray, List.set_cons_zero, List.set_cons_succ])
            clear hb1' hB1
            refine wpAnyH_take (i := 7) (v := ?_) (by simp only [List.getElem?_toArray, List.getElem?_cons_succ, List.getElem?_cons_zero]; rfl) (by kernel_rfl) (by kernel_rfl) (by kernel_rfl) (fun _ _ _ h => h) (Or.inl ⟨by rfl, ?_⟩) (by assumption) ?_
            rotate_left
            · (intro w hSw; (try dsimp only at hSw); go_simp; (try with_reducible rfl))
            (try simp only [Act.put, List.setIfInBounds_toArray, List.set_cons_zero, List.set_cons_succ])
            refine wpAnyH_take (i := 8) (v := ?_) (by simp only [List.getElem?_toArray, List.getElem?_cons_succ, List.getElem?_cons_zero]; rfl) (by kernel_rfl) (by kernel_rfl) (by kernel_rfl) (fun _ _ _ h => h) (Or.inl ⟨by rfl, ?_⟩) (by assumption) ?_
            rotate_left
            · (intro w hSw; (try dsimp only at hSw); go_simp; (try with_reducible rfl))
            (try simp only [Act.put, List.setIfInBounds_toArray, List.set_cons_zero, List.set_cons_succ])
            refine wpAnyH_ready (rs := [9]) (by kernel_rfl) (by simp) ?_
            refine AllReadyH.cons (by simp only [List.getElem?_toArray, List.getElem?_cons_succ, List.getElem?_cons_zero]; rfl) (fun K hK => ?_) AllReadyH.nil
            go_simp
            refine (all_none _).mono ?_
            rintro ee wf ⟨A3, c3, rfl, hb1'⟩
            have hB1 : Below wc.heap.size wc wf := HBe.out.trans (hb1'.mono HBe.out.size)
            have HBf := Lib.hid hB1
            refine hK.out _ _ ?_ (fun hHeld => ?_)
            · exact HKP.out _ hB1
            clear hK K
            (try simp only [Act.put, List.setIfInBounds_toArray, List.set_cons_zero, List.set_cons_succ])
            clear hb1' hB1
            refine wpAnyH_take (i := 10) (v := ?_) (by simp only [List.getElem?_toArray, List.getElem?_cons_succ, List.getElem?_cons_zero]; rfl) (by kernel_rfl) (by kernel_rfl) (by kernel_rfl) (fun _ _ _ h => h) (Or.inl ⟨by rfl, ?_⟩) (by assumption) ?_
            rotate_left
            · (intro w hSw; (try dsimp only at hSw); go_simp; (try with_reducible rfl))
            (try simp only [Act.put, List.setIfInBounds_toArray, List.set_cons_zero, List.set_cons_succ])
            refine wpAnyH_take (i := 11) (v := ?_) (by simp only [List.getElem?_toArray, List.getElem?_cons_succ, List.getElem?_cons_zero]; rfl) (by kernel_rfl) (by kernel_rfl) (by kernel_rfl) (fun _ _ _ h => h) (Or.inl ⟨by rfl, ?_⟩) (by assumption) ?_
            rotate_left
            · (intro w hSw; (try dsimp only at hSw); go_simp; (try with_reducible rfl))
            (try simp only [Act.put, List.setIfInBounds_toArray, List.set_cons_zero, List.set_cons_succ])
            refine wpAnyH_take (i := 12) (v := ?_) (by simp only [List.getElem?_toArray, List.getElem?_cons_succ, List.getElem?_cons_zero]; rfl) (by kernel_rfl) (by kernel_rfl) (by kernel_rfl) (fun _ _ _ h => h) (Or.inl ⟨by rfl, ?_⟩) (by assumption) ?_
            rotate_left
            · (intro w hSw; (try dsimp only at hSw); go_simp; (try with_reducible rfl))
            (try simp only [Act.put, List.setIfInBounds_toArray, List.set_cons_zero, List.set_cons_succ])
            refine wpAnyH_take (i := 13) (v := ?_) (by simp only [List.getElem?_toArray, List.getElem?_cons_succ, List.getElem?_cons_zero]; rfl) (by kernel_rfl) (by kernel_rfl) (by kernel_rfl) (fun _ _ _ h => h) (Or.inl ⟨by rfl, ?_⟩) (by assumption) ?_
            rotate_left
            · (intro w hSw; (try dsimp only at hSw); go_simp; (try with_reducible rfl))
            (try simp only [Act.put, List.setIfInBounds_toArray, List.set_cons_zero, List.set_cons_succ])
            refine wpAnyH_take (i := 14) (v := ?_) (by simp only [List.getElem?_toArray, List.getElem?_cons_succ, List.getElem?_cons_zero]; rfl) (by kernel_rfl) (by kernel_rfl) (by kernel_rfl) (fun _ _ _ h => h) (Or.inl ⟨by rfl, ?_⟩) (by assumption) ?_
            rotate_left
            · (intro w hSw; (try dsimp only at hSw); go_simp; (try with_reducible rfl))
            (try simp only [Act.put, List.setIfInBounds_toArray, List.set_cons_zero, List.set_cons_succ])
            refine wpAnyH_take (i := 15) (v := ?_) (by simp only [List.getElem?_toArray, List.getElem?_cons_succ, List.getElem?_cons_zero]; rfl) (by kernel_rfl) (by kernel_rfl) (by kernel_rfl) (fun _ _ _ h => h) (Or.inl ⟨by rfl, ?_⟩) (by assumption) ?_
            rotate_left
            · (intro w hSw; (try dsimp only at hSw); go_simp; (try with_reducible rfl))
            (try simp only [Act.put, List.setIfInBounds_toArray, List.set_cons_zero, List.set_cons_succ])
            refine wpAnyH_ready (rs := [16]) (by kernel_rfl) (by simp) ?_
            refine AllReadyH.cons (by simp only [List.getElem?_toArray, List.getElem?_cons_succ, List.getElem?_cons_zero]; rfl) (fun K hK => ?_) AllReadyH.nil
            go_simp
            refine (HFN.out _).mono ?_
            rintro ee wg ⟨A4, c4, rfl, hb1'⟩
            have hB1 : Below wc.heap.size wc wg := HBf.out.trans (hb1'.mono HBf.out.size)
            have HBg := Lib.hid hB1
            refine hK.out _ _ ?_ (fun hHeld => ?_)
            · exact HKP.out _ hB1
            clear hK K
            (try simp only [Act.put, List.setIfInBounds_toArray, List.set_cons_zero, List.set_cons_succ])
            clear hb1' hB1
            refine wpAnyH_take (i := 17) (v := ?_) (by simp only [List.getElem?_toArray, List.getElem?_cons_succ, List.getElem?_cons_zero]; rfl) (by kernel_rfl) (by kernel_rfl) (by kernel_rfl) (fun _ _ _ h => h) (Or.inl ⟨by rfl, ?_⟩) (by assumption) ?_
            rotate_left
            · (intro w hSw; (try dsimp only at hSw); go_simp; (try with_reducible rfl))
            (try simp only [Act.put, List.setIfInBounds_toArray, List.set_cons_zero, List.set_cons_succ])
            refine wpAnyH_take (i := 18) (v := ?_) (by simp only [List.getElem?_toArray, List.getElem?_cons_succ, List.getElem?_cons_zero]; rfl) (by kernel_rfl) (by kernel_rfl) (by kernel_rfl) (fun _ _ _ h => h) (Or.inl ⟨by rfl, ?_⟩) (by assumption) ?_
            rotate_left
            · (intro w hSw; (try dsimp only at hSw); go_simp; (try with_reducible rfl))
            (try simp only [Act.put, List.setIfInBounds_toArray, List.set_cons_zero, List.set_cons_succ])
            refine wpAnyH_take (i := 19) (v := ?_) (by simp only [List.getElem?_toArray, List.getElem?_cons_succ, List.getElem?_cons_zero]; rfl) (by kernel_rfl) (by kernel_rfl) (by kernel_rfl) (fun _ _ _ h => h) (Or.inl ⟨by rfl, ?_⟩) (by assumption) ?_
            rotate_left
            · (intro w hSw; (try dsimp only at hSw); go_simp; (try with_reducible rfl))
            (try simp only [Act.put, List.setIfInBounds_toArray, List.set_cons_zero, List.set_cons_succ])
            refine wpAnyH_take (i := 20) (v := ?_) (by simp only [List.getElem?_toArray, List.getElem?_cons_succ, List.getElem?_cons_zero]; rfl) (by kernel_rfl) (by kernel_rfl) (by kernel_rfl) (fun _ _ _ h => h) (Or.inl ⟨by rfl, ?_⟩) (by assumption) ?_
            rotate_left
            · (intro w hSw; (try dsimp only at hSw); go_simp; (try with_reducible rfl))
            (try simp only [Act.put, List.setIfInBounds_toArray, List.set_cons_zero, List.set_cons_succ])
            refine wpAnyH_done (by kernel_rfl) ?_ _
            refine NoPanic.normal ?_
            clear hHeld
            go_wp2
            go_ret
            exact ⟨rfl, HBW.out _ HBg.out⟩
      · have hev' : ¬ (ev : Int) = 0 := by omega
        go_wp2
        go_ret
        exact ⟨rfl, HB3.out⟩
end Go.Proofs.Ytalcdmpjpphopaa
