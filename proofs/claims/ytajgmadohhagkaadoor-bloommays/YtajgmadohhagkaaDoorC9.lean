/- The walk of BloomMays. -/
import Derived.Test.YtajgmadohhagkaaDoorC8
namespace Go.Proofs.YtajgmadohhagkaaDoor
set_option linter.unusedSimpArgs false
set_option linter.unusedVariables false
open Go.RowKit

theorem bit_one : ∀ c, c < 256 → ∀ m, m < 8 → (c.testBit m = true ↔ c / 2 ^ m % 2 = 1) := by decide +kernel
theorem allN_all (l : List Nat) (p : Nat → Nat) (k : Nat) : allN l p (k + 1) = (allN l p k && hasB l (p k)) := rfl

set_option maxHeartbeats 2000000 in
set_option maxRecDepth 100000 in
theorem mays_walk (A : Option Addr) (n c : Nat) (bs s : List Nat) (w : World) (hr : Rd w w.heap.size A n (bys bs)) (hb : ∀ c ∈ bs, c < 256) (hnc : n ≤ c) (hcm : c ≤ maxLen) (hs : ∀ c ∈ s, c < 256) (hsl : s.length ≤ maxLen) (ht : TabAt w) :
    Calls Tryd.prog 4 #[.slice A n c, .string (strB s)] w fun e w' => e = .returned (.bool true) ∧ Below w.heap.size w w' := by
  have HT := Lib.hid ht
  have HR := Lib.hid hr
  have HB := Lib.hid hb
  have HS := Lib.hid hs
  have HCM := Lib.hid hcm
  have hbl : bs.length = n := by have := hr.1; rwa [bys_len] at this
  have HBL := Lib.hid hbl
  have hszs : (strB s).size = s.length := strB_size s
  have hsl' : s.length ≤ 9223372036854775807 := hsl
  have hn' : (n : Int) ≤ 9223372036854775807 := by unfold maxLen at hcm; omega
  clear ht hr hb hs hcm hsl hbl
  by_cases h5 : 500 < n
  · have h5' : (500 : Int) < (n : Int) := by omega
    go_enter Tryd.func4, Tryd.ntmps4
    go_upto_region 3 with (go_at_call 8; refine (head_any _ HT.out).mono ?_; rintro e w1 ⟨rfl, hb1⟩)
    go_wp2
    go_ret
    exact ⟨rfl, hb1⟩
  · have h5' : (n : Int) ≤ 500 := by omega
    by_cases h3 : 300 < s.length
    · have h3' : (300 : Int) < (s.length : Int) := by omega
      go_enter Tryd.func4, Tryd.ntmps4
      go_upto_region 3 with (go_at_call 8; refine (head_any _ HT.out).mono ?_; rintro e w1 ⟨rfl, hb1⟩)
      go_wp2
      go_ret
      exact ⟨rfl, hb1⟩
    · have h3' : (s.length : Int) ≤ 300 := by omega
      have hsb : s.length ≤ 1000000000 := by omega
      go_enter Tryd.func4, Tryd.ntmps4
      go_upto_region 3 with (go_at_call 8; refine (head_any _ HT.out).mono ?_; rintro e w1 ⟨rfl, hb1⟩)
      have HB1 := Lib.hid hb1
      have s1 := hb1.size
      clear hb1
      have HPA := Lib.hid (parse_any A n c bs w1 ((HR.out.below HB1.out).up s1) HB.out (by omega) hnc HCM.out)
      have HPE : Hid (prsV bs = if prs bs then .tuple #[flt (bs.drop 1), .int .i64 0] else .tuple #[flt [], .int .i64 2]) := Lib.hid rfl
      have HPB : Hid (prs bs = (decide (9 ≤ n) && decide (n ≤ 1048577) && decide (bs.getD 0 0 = 6))) := Lib.hid (by rw [prs, HBL.out])
      cases hp : prs bs with
      | false =>
        have HV : Hid (prsV bs = .tuple #[.agg #[.string ⟨#[]⟩], .int .i64 2]) := Lib.hid (by rw [HPE.out, hp]; rfl)
        rw [HV.out] at HPA
        have HMAY := Lib.hid (fun W (hb : Below w.heap.size w W) => may_any [] s (by simp) (by decide) HS.out hsb W (HT.out.below hb HT.out.1))
        have hz : (flt [] : Value) = .agg #[.string ⟨#[]⟩] := rfl
        rw [hz] at HMAY
        rw [show mayB [] s = false from rfl] at HMAY
        go_upto_region 5 with fail
        go_wp2_with fail
        refine HPA.out.mono ?_
        rintro e w2 ⟨rfl, hb2⟩
        have HB2 := Lib.hid (HB1.out.trans (hb2.mono s1))
        have s2 := HB2.out.size
        clear hb2 HPA
        go_upto_region 6 with fail
        by_cases h9 : n < 9
        · have h9' : (n : Int) < 9 := by omega
          have h9d : decide ((9 : Int) ≤ (n : Int)) = false := by simp; omega
          go_wp2_with fail
          refine (HMAY.out (w2.alloc (.cells #[.string ⟨#[]⟩] 26)) (HB2.out.alloc s2 _)).mono ?_
          rintro e w5 ⟨rfl, hb5⟩
          have HB5 := Lib.hid (HB2.out.trans (((Below.refl _ w2).alloc (Nat.le_refl _) (.cells #[.string ⟨#[]⟩] 26) |>.trans (hb5.mono (by simp))).mono s2))
          clear hb5
          go_wp2
          go_ret
          exact ⟨rfl, HB5.out⟩
        · have h9' : (9 : Int) ≤ (n : Int) := by omega
          obtain ⟨g, off, u, rfl, hgB, hu, hcell⟩ := (HR.out.below (HB2.out.alloc s2 (.cells #[.string ⟨#[]⟩] 26))).at_ (k := 0) (by omega)
          rw [bys_get bs 0 (by have := HBL.out; omega)] at hu
          injection hu with hu
          subst hu
          rw [Nat.add_zero] at hcell
          have hb0 := getD_lt HB.out 0
          have h6 : ¬ bs.getD 0 0 = 6 := by
            intro h6
            rw [HPB.out, decide_eq_true (show 9 ≤ n by omega), decide_eq_true (show n ≤ 1048577 by omega), decide_eq_true h6] at hp
            cases hp
          generalize bs.getD 0 0 = x at *
          have h6' : ((x : Int) == 6) = false := by simp; omega
          clear HPB HPE hp HV
          go_wp2_with fail
          refine (HMAY.out (w2.alloc (.cells #[.string ⟨#[]⟩] 26)) (HB2.out.alloc s2 _)).mono ?_
          rintro e w5 ⟨rfl, hb5⟩
          have HB5 := Lib.hid (HB2.out.trans (((Below.refl _ w2).alloc (Nat.le_refl _) (.cells #[.string ⟨#[]⟩] 26) |>.trans (hb5.mono (by simp))).mono s2))
          clear hb5
          go_wp2
          go_ret
          exact ⟨rfl, HB5.out⟩
      | true =>
        have h9 : 9 ≤ n ∧ bs.getD 0 0 = 6 := by
          rw [HPB.out] at hp
          simp only [Bool.and_eq_true, decide_eq_true_eq] at hp
          exact ⟨hp.1.1, hp.2⟩
        obtain ⟨h9, h6⟩ := h9
        have h9' : (9 : Int) ≤ (n : Int) := by omega
        obtain ⟨Fl, hFl⟩ : ∃ Fl, Fl = bs.drop 1 := ⟨_, rfl⟩
        have HFL := Lib.hid hFl
        have HLL : Hid (Fl.length = n - 1) := Lib.hid (by rw [hFl, List.length_drop, HBL.out])
        have HFB : Hid (∀ c ∈ Fl, c < 256) := Lib.hid (by rw [hFl]; exact fun c hc => HB.out c (List.mem_of_mem_drop hc))
        have HBE : Hid (bs = 6 :: Fl) := Lib.hid (by
          rw [hFl]
          cases hbs : bs with
          | nil => rw [hbs] at h6; cases h6
          | cons a r => rw [hbs] at h6; simp at h6; subst h6; rfl)
        have HV : Hid (prsV bs = .tuple #[.agg #[.string (strB Fl)], .int .i64 0]) := Lib.hid (by rw [HPE.out, hp, hFl]; rfl)
        rw [HV.out] at HPA
        have HFS : Hid (flt Fl = .agg #[.string (strB Fl)]) := Lib.hid rfl
        have hlu : (Fl.length : Int) ≤ 1048576 := by have := HLL.out; omega
        have HMAY := Lib.hid (fun W (hb : Below w.heap.size w W) => may_any Fl s HFB.out hlu HS.out hsb W (HT.out.below hb HT.out.1))
        have HBY := Lib.hid (fun W => bytes_any Fl HFB.out hlu W)
        have HME : Hid (mayB Fl s = allN Fl (kp (n - 1) s) 6) := Lib.hid (by unfold mayB; rw [HLL.out, decide_eq_true (by omega), Bool.true_and])
        rw [HFS.out] at HMAY HBY
        rw [HME.out] at HMAY
        obtain ⟨FS, hFS⟩ : ∃ FS, FS = strB Fl := ⟨_, rfl⟩
        rw [← hFS] at HPA HMAY HBY
        have HFSE := Lib.hid hFS
        have HGET := Lib.hid (fun q (hq : q < n - 1) => show bs.getD (1 + q) 0 = Fl.getD q 0 from by
          rw [HBE.out, Nat.add_comm]
          rfl)
        clear HPE HPB hp hFl HV hFS
        go_upto_region 5 with fail
        go_wp2_with fail
        refine HPA.out.mono ?_
        rintro e w2 ⟨rfl, hb2⟩
        have HB2 := Lib.hid (HB1.out.trans (hb2.mono s1))
        have s2 := HB2.out.size
        clear hb2 HPA
        go_upto_region 6 with fail
        obtain ⟨w4, hw4⟩ : ∃ w4, w4 = w2.alloc (.cells #[.string FS] 26) := ⟨_, rfl⟩
        rw [← hw4]
        have HB4 : Hid (Below w.heap.size w w4) := by rw [hw4]; exact Lib.hid (HB2.out.alloc s2 _)
        obtain ⟨gf, hgf⟩ : ∃ gf, gf = w2.heap.size := ⟨_, rfl⟩
        have cf4 : w4.cell? ⟨gf, 0, none⟩ = some (.string FS) := by rw [hw4, hgf, World.cell?_alloc_mark]; rfl
        rw [← hgf]
        have HCF4 := Lib.hid cf4
        have z4 : gf < w4.heap.size := World.block_lt_of_cell? _ _ cf4
        clear hw4 hgf cf4
        obtain ⟨g, off, u, rfl, hgB, hu, hcell⟩ := (HR.out.below HB4.out).at_ (k := 0) (by omega)
        rw [bys_get bs 0 (by have := HBL.out; omega), h6] at hu
        injection hu with hu
        subst hu
        rw [Nat.add_zero] at hcell
        go_upto_region 11 with fail
        have HKB := Lib.hid (kbits_any s HS.out hsb (n - 1) (by omega) (by omega) w4)
        have hsub : (n : Int) - 1 = ((n - 1 : Nat) : Int) := by omega
        have hs4 := HB4.out.size
        clear hcell
        go_wp2_with fail
        refine HKB.out.mono ?_
        rintro e w6 ⟨v6, rfl, hB6, hb6⟩
        have HB6 := Lib.hid (HB4.out.trans (hb6.mono hs4))
        have cf6 := (hb6.cell (p := ⟨gf, 0, none⟩) z4).trans HCF4.out
        obtain ⟨A6, c6, rfl, _, hr6⟩ := hB6.slice
        have HR6 := Lib.hid hr6
        have HC6 := Lib.hid cf6
        clear hB6 hb6 HKB hr6 cf6 hsub
        go_upto_region 13 with fail
        go_loop [8, 10, 50] (fun v8 v10 v50 => ∃ k : Nat, k ≤ 6 ∧ v50 = .int .i64 (k : Int) ∧ v8 = .bool (allN Fl (kp (n - 1) s) k)) (fun _ _ v50 => 6 - (intOf v50).toNat)
        case atStart => exact ⟨0, by omega, rfl, rfl⟩
        case round =>
          obtain ⟨k, hk6, rfl, rfl⟩ := hrel
          by_cases hlk : k < 6
          · have hlk' : (k : Int) < 6 := by omega
            have HAL : Hid (allN Fl (kp (n - 1) s) (k + 1) = (allN Fl (kp (n - 1) s) k && hasB Fl (kp (n - 1) s k))) := Lib.hid rfl
            have hp8 := kp_lt (n - 1) s HS.out (by omega) k
            obtain ⟨g6, o6, u6', rfl, _, hu, hcell⟩ := HR6.out.at_ (k := k) hlk
            rw [ints_get _ k (by rw [kps_len]; exact hlk), show (kps (n - 1) s 6).getD k 0 = kp (n - 1) s k by rw [List.getD, kps_get (n - 1) s k 6 hlk]; rfl] at hu
            injection hu with hu
            subst hu
            generalize allN Fl (kp (n - 1) s) k = ok at *
            generalize hok2 : allN Fl (kp (n - 1) s) (k + 1) = ok2 at *
            have HOK2 := Lib.hid hok2
            clear hok2
            generalize kp (n - 1) s k = p at *
            have hq : p / 8 < n - 1 := by omega
            have hpq : (p : Int) / 8 = ((p / 8 : Nat) : Int) := by omega
            have hpm : (p : Int) % 8 = ((p % 8 : Nat) : Int) := by omega
            have hm8 : p % 8 < 8 := Nat.mod_lt _ (by decide)
            have hcl := getD_lt HFB.out (p / 8)
            have hbo := bit_one _ hcl _ hm8
            have HHB : Hid (hasB Fl p = (Fl.getD (p / 8) 0).testBit (p % 8)) := Lib.hid rfl
            obtain ⟨g7, off7, u7, e7, _, hu, hcb⟩ := (HR.out.below HB6.out).at_ (k := 1 + p / 8) (by omega)
            injection e7 with e7
            injection e7 with e7 e8
            subst e7
            subst e8
            rw [bys_get bs (1 + p / 8) (by have := HBL.out; omega), HGET.out (p / 8) hq] at hu
            injection hu with hu
            subst hu
            have hpi : (p : Int) ≤ 4000 := by omega
            have hP : (2 : Int) ^ (p % 8) = ((2 ^ (p % 8) : Nat) : Int) := by simp
            have hd : (Fl.getD (p / 8) 0 : Int) / ((2 ^ (p % 8) : Nat) : Int) = ((Fl.getD (p / 8) 0 / 2 ^ (p % 8) : Nat) : Int) := by simp
            have hdl : Fl.getD (p / 8) 0 / 2 ^ (p % 8) ≤ Fl.getD (p / 8) 0 := Nat.div_le_self _ _
            rw [HHB.out] at HAL
            generalize Fl.getD (p / 8) 0 = cc at *
            generalize p / 8 = q at *
            generalize p % 8 = mm at *
            generalize 2 ^ mm = P at *
            generalize cc / P = d at *
            generalize cc.testBit mm = tb at *
            have hand : bits .and .u8 (d : Int) 1 = (d : Int) % 2 := by
              have := bits_mask .u8 8 (by decide) wraps_u8 1 (by decide) (d : Int) (by omega) (by omega)
              exact this
            have hqn : (1 : Int) + (q : Int) < (n : Int) := by omega
            cases ok with
            | false =>
              go_wp2
              go_round
              case measure => simp [intOf]; omega
              case rel => exact ⟨k + 1, by omega, by go_num, by rw [HOK2.out, HAL.out]; rfl⟩
            | true =>
              go_wp2
              go_round
              case measure => simp [intOf]; omega
              case rel =>
                refine ⟨k + 1, by omega, by go_num, ?_⟩
                rw [HOK2.out, HAL.out, Bool.true_and]
                congr 1
                cases tb
                · have : ¬ d % 2 = 1 := fun h => by have := hbo.2 h; cases this
                  simp
                  omega
                · have : d % 2 = 1 := hbo.1 rfl
                  simp
                  omega
          · obtain rfl : k = 6 := by omega
            generalize allN Fl (kp (n - 1) s) 6 = ok at *
            have HF6 : Hid (strB (6 :: Fl) = strB bs) := Lib.hid (by rw [HBE.out])
            have l1 : gf < w6.heap.size := World.block_lt_of_cell? _ _ HC6.out
            have HCV := Lib.hid (fun wx (hb : Below w6.heap.size w6 wx) => show (convert 30 9 (.slice (some ⟨g, off, none⟩) n c)).run Tryd.prog wx = .ok (.string (strB bs)) wx from
              run_conv (P := Tryd.prog) c ((HR.out.below HB6.out).up HB6.out.size |>.below hb) 30 9 5 Tryd.underlying30 Tryd.underlying5 Tryd.underlying9)
            generalize strB bs = BS at *
            have KEEP := Lib.hid (fun (wx wy : World) (h : wx.cell? ⟨gf, 0, none⟩ = some (.string FS) ∧ (convert 30 9 (.slice (some ⟨g, off, none⟩) n c)).run Tryd.prog wx = .ok (.string BS) wx ∧ Below w6.heap.size w6 wx) (hb : Below wx.heap.size wx wy) =>
              (⟨(hb.cell (p := ⟨gf, 0, none⟩) (Nat.lt_of_lt_of_le l1 h.2.2.size)).trans h.1, HCV.out _ (h.2.2.trans (hb.mono h.2.2.size)), h.2.2.trans (hb.mono h.2.2.size)⟩ : wy.cell? ⟨gf, 0, none⟩ = some (.string FS) ∧ (convert 30 9 (.slice (some ⟨g, off, none⟩) n c)).run Tryd.prog wy = .ok (.string BS) wy ∧ Below w6.heap.size w6 wy))
            have cf := HC6.out
            have s6 := HB6.out.size
            have HM2 := Lib.hid (fun W (hb : Below w6.heap.size w6 W) => HMAY.out W (HB6.out.trans (hb.mono s6)))
            clear l1
            go_upto_region 17 with fail
            refine wp_region_noPanic ?_
            refine wp_region_held_drew (S := (fun wx => wx.cell? ⟨gf, 0, none⟩ = some (.string FS) ∧ (convert 30 9 (.slice (some ⟨g, off, none⟩) n c)).run Tryd.prog wx = .ok (.string BS) wx ∧ Below w6.heap.size w6 wx)) (by kernel_rfl) (⟨cf, HCV.out _ (Below.refl _ _).drew, (Below.refl _ _).drew⟩) (fun hHeld => ?_)
            refine wpAnyH_take (i := 0) (v := ?_) (by simp only [List.getElem?_toArray, List.getElem?_cons_succ, List.getElem?_cons_zero]; rfl) (by kernel_rfl) (by kernel_rfl) (by kernel_rfl) (fun _ _ _ h => h) (Or.inl ⟨by rfl, ?_⟩) (by assumption) ?_
            rotate_left
            · (intro w hSw; (try dsimp only at hSw); go_simp; (try with_reducible rfl))
            (try simp only [Act.put, List.setIfInBounds_toArray, List.set_cons_zero, List.set_cons_succ])
            refine wpAnyH_take (i := 1) (v := ?_) (by simp only [List.getElem?_toArray, List.getElem?_cons_succ, List.getElem?_cons_zero]; rfl) (by kernel_rfl) (by kernel_rfl) (by kernel_rfl) (fun _ _ _ h => h) (Or.inl ⟨by rfl, ?_⟩) (by assumption) ?_
            rotate_left
            · (intro w hSw; (try dsimp only at hSw); go_simp; (try with_reducible rfl))
            (try simp only [Act.put, List.setIfInBounds_toArray, List.set_cons_zero, List.set_cons_succ])
            refine wpAnyH_take (i := 2) (v := ?_) (by simp only [List.getElem?_toArray, List.getElem?_cons_succ, List.getElem?_cons_zero]; rfl) (by kernel_rfl) (by kernel_rfl) (by kernel_rfl) (fun _ _ _ h => h) (Or.inl ⟨by rfl, ?_⟩) (by assumption) ?_
            rotate_left
            · (intro w hSw; (try dsimp only at hSw); go_simp; (try with_reducible rfl))
            (try simp only [Act.put, List.setIfInBounds_toArray, List.set_cons_zero, List.set_cons_succ])
            refine wpAnyH_take (i := 3) (v := ?_) (by simp only [List.getElem?_toArray, List.getElem?_cons_succ, List.getElem?_cons_zero]; rfl) (by kernel_rfl) (by kernel_rfl) (by kernel_rfl) (fun _ _ _ h => h) (Or.inl ⟨by rfl, ?_⟩) (by assumption) ?_
            rotate_left
            · (intro w hSw; (try dsimp only at hSw); go_simp; (try with_reducible rfl))
            (try simp only [Act.put, List.setIfInBounds_toArray, List.set_cons_zero, List.set_cons_succ])
            refine wpAnyH_take (i := 4) (v := ?_) (by simp only [List.getElem?_toArray, List.getElem?_cons_succ, List.getElem?_cons_zero]; rfl) (by kernel_rfl) (by kernel_rfl) (by kernel_rfl) (fun _ _ _ h => h) (Or.inl ⟨by rfl, ?_⟩) (by assumption) ?_
            rotate_left
            · (intro w hSw; (try dsimp only at hSw); go_simp; (try with_reducible rfl))
            (try simp only [Act.put, List.setIfInBounds_toArray, List.set_cons_zero, List.set_cons_succ])
            refine wpAnyH_take (i := 6) (v := ?_) (by simp only [List.getElem?_toArray, List.getElem?_cons_succ, List.getElem?_cons_zero]; rfl) (by kernel_rfl) (by kernel_rfl) (by kernel_rfl) (fun _ _ _ h => h) (Or.inl ⟨by rfl, ?_⟩) (by assumption) ?_
            rotate_left
            · (intro w hSw; (try dsimp only at hSw); go_simp; (try with_reducible rfl))
            (try simp only [Act.put, List.setIfInBounds_toArray, List.set_cons_zero, List.set_cons_succ])
            refine wpAnyH_ready (rs := [5]) (by kernel_rfl) (by simp) ?_
            refine AllReadyH.cons (by simp only [List.getElem?_toArray, List.getElem?_cons_succ, List.getElem?_cons_zero]; rfl) (fun K hK => ?_) AllReadyH.nil
            go_simp
            refine (HM2.out _ hHeld.2.2).mono ?_
            rintro ee w7 ⟨rfl, hb7⟩
            refine hK.out _ _ ?_ (fun hHeld => ?_)
            · exact KEEP.out _ _ hHeld hb7
            clear hK K
            (try simp only [Act.put, List.setIfInBounds_toArray, List.set_cons_zero, List.set_cons_succ])
            refine wpAnyH_take (i := 7) (v := ?_) (by simp only [List.getElem?_toArray, List.getElem?_cons_succ, List.getElem?_cons_zero]; rfl) (by kernel_rfl) (by kernel_rfl) (by kernel_rfl) (fun _ _ _ h => h) (Or.inl ⟨by rfl, ?_⟩) (by assumption) ?_
            rotate_left
            · (intro w hSw; (try dsimp only at hSw); go_simp; (try with_reducible rfl))
            (try simp only [Act.put, List.setIfInBounds_toArray, List.set_cons_zero, List.set_cons_succ])
            refine wpAnyH_take (i := 8) (v := ?_) (by simp only [List.getElem?_toArray, List.getElem?_cons_succ, List.getElem?_cons_zero]; rfl) (by kernel_rfl) (by kernel_rfl) (by kernel_rfl) (fun _ _ _ h => h) (Or.inl ⟨by rfl, ?_⟩) (by assumption) ?_
            rotate_left
            · (intro w hSw; (try dsimp only at hSw); go_simp; (try with_reducible rfl))
            (try simp only [Act.put, List.setIfInBounds_toArray, List.set_cons_zero, List.set_cons_succ])
            refine wpAnyH_take (i := 9) (v := ?_) (by simp only [List.getElem?_toArray, List.getElem?_cons_succ, List.getElem?_cons_zero]; rfl) (by kernel_rfl) (by kernel_rfl) (by kernel_rfl) (fun _ _ _ h => h) (Or.inl ⟨by rfl, ?_⟩) (by assumption) ?_
            rotate_left
            · (intro w hSw; (try dsimp only at hSw); go_simp; (try with_reducible rfl))
            (try simp only [Act.put, List.setIfInBounds_toArray, List.set_cons_zero, List.set_cons_succ])
            refine wpAnyH_take (i := 10) (v := ?_) (by simp only [List.getElem?_toArray, List.getElem?_cons_succ, List.getElem?_cons_zero]; rfl) (by kernel_rfl) (by kernel_rfl) (by kernel_rfl) (fun _ _ _ h => h) (Or.inl ⟨by rfl, ?_⟩) (by assumption) ?_
            rotate_left
            · (intro w hSw; (try dsimp only at hSw); go_simp; (try with_reducible rfl))
            (try simp only [Act.put, List.setIfInBounds_toArray, List.set_cons_zero, List.set_cons_succ])
            refine wpAnyH_take (i := 13) (v := ?_) (by simp only [List.getElem?_toArray, List.getElem?_cons_succ, List.getElem?_cons_zero]; rfl) (by kernel_rfl) (by kernel_rfl) (by kernel_rfl) (fun _ _ _ h => h) (Or.inl ⟨by rfl, ?_⟩) (by assumption) ?_
            rotate_left
            · (intro w hSw; (try dsimp only at hSw); go_simp; (try with_reducible rfl))
            (try simp only [Act.put, List.setIfInBounds_toArray, List.set_cons_zero, List.set_cons_succ])
            refine wpAnyH_take (i := 14) (v := .string BS) (by simp only [List.getElem?_toArray, List.getElem?_cons_succ, List.getElem?_cons_zero]; rfl) (by kernel_rfl) (by kernel_rfl) (by kernel_rfl) (fun _ _ _ h => h) (Or.inl ⟨by rfl, ?_⟩) (by assumption) ?_
            · (intro w hSw; (try dsimp only at hSw); go_simp; (try simp))
            (try simp only [Act.put, List.setIfInBounds_toArray, List.set_cons_zero, List.set_cons_succ])
            refine wpAnyH_ready (rs := [11]) (by kernel_rfl) (by simp) ?_
            refine AllReadyH.cons (by simp only [List.getElem?_toArray, List.getElem?_cons_succ, List.getElem?_cons_zero]; rfl) (fun K hK => ?_) AllReadyH.nil
            go_simp
            refine (HBY.out _).mono ?_
            rintro ee w8 ⟨A8, c8, rfl, hr8, _, hb8⟩
            refine hK.out _ _ ?_ (fun hHeld => ?_)
            · exact KEEP.out _ _ hHeld hb8
            clear hK K
            (try simp only [Act.put, List.setIfInBounds_toArray, List.set_cons_zero, List.set_cons_succ])
            refine wpAnyH_ready (rs := [12]) (by kernel_rfl) (by simp) ?_
            refine AllReadyH.cons (by simp only [List.getElem?_toArray, List.getElem?_cons_succ, List.getElem?_cons_zero]; rfl) (fun K hK => ?_) AllReadyH.nil
            have cv8 := run_conv (P := Tryd.prog) c8 hr8 30 9 5 Tryd.underlying30 Tryd.underlying5 Tryd.underlying9
            rw [HF6.out] at cv8
            go_simp
            refine hK.out _ _ ?_ (fun hHeld => ?_)
            · exact hHeld
            clear hK K
            (try simp only [Act.put, List.setIfInBounds_toArray, List.set_cons_zero, List.set_cons_succ])
            refine wpAnyH_take (i := 15) (v := ?_) (by simp only [List.getElem?_toArray, List.getElem?_cons_succ, List.getElem?_cons_zero]; rfl) (by kernel_rfl) (by kernel_rfl) (by kernel_rfl) (fun _ _ _ h => h) (Or.inl ⟨by rfl, ?_⟩) (by assumption) ?_
            rotate_left
            · (intro w hSw; (try dsimp only at hSw); go_simp; (try with_reducible rfl))
            (try simp only [Act.put, List.setIfInBounds_toArray, List.set_cons_zero, List.set_cons_succ])
            refine wpAnyH_take (i := 16) (v := ?_) (by simp only [List.getElem?_toArray, List.getElem?_cons_succ, List.getElem?_cons_zero]; rfl) (by kernel_rfl) (by kernel_rfl) (by kernel_rfl) (fun _ _ _ h => h) (Or.inl ⟨by rfl, ?_⟩) (by assumption) ?_
            rotate_left
            · (intro w hSw; (try dsimp only at hSw); go_simp; (try with_reducible rfl))
            (try simp only [Act.put, List.setIfInBounds_toArray, List.set_cons_zero, List.set_cons_succ])
            refine wpAnyH_take (i := 17) (v := ?_) (by simp only [List.getElem?_toArray, List.getElem?_cons_succ, List.getElem?_cons_zero]; rfl) (by kernel_rfl) (by kernel_rfl) (by kernel_rfl) (fun _ _ _ h => h) (Or.inl ⟨by rfl, ?_⟩) (by assumption) ?_
            rotate_left
            · (intro w hSw; (try dsimp only at hSw); go_simp; (try with_reducible rfl))
            (try simp only [Act.put, List.setIfInBounds_toArray, List.set_cons_zero, List.set_cons_succ])
            refine wpAnyH_done (by kernel_rfl) ?_ _
            refine NoPanic.normal ?_
            have HF := Lib.hid (HB6.out.trans (hHeld.2.2.mono s6))
            clear hHeld
            go_wp2
            go_ret
            exact ⟨by simp, HF.out⟩
end Go.Proofs.YtajgmadohhagkaaDoor
