/- The walk of PageParses. -/
import Derived.Test.YtalcdmpjpphopaaPA
namespace Go.Proofs.Ytalcdmpjpphopaa
set_option linter.unusedSimpArgs false
set_option linter.unusedVariables false
open Go.RowKit

theorem Rd.toN {w : World} {B n : Nat} {A : Option Addr} {xs : List Value} (h : Rd w B A n xs) : RdN w B 1 A n xs := ⟨by rw [h.1, Nat.mul_one], h.2⟩
theorem RdN.to1 {w : World} {B n : Nat} {A : Option Addr} {xs : List Value} (h : RdN w B 1 A n xs) : Rd w B A n xs := ⟨by rw [h.len, Nat.mul_one], h.at_⟩
theorem xor255 (c : Nat) (h : c < 256) : c ^^^ 255 < 256 := by
  have e : (256 : Nat) = 2 ^ 8 := by decide
  rw [e] at h ⊢
  exact Nat.xor_lt_two_pow h (by decide)
theorem set_lt' (m : List Nat) (p y : Nat) (hm : ∀ c ∈ m, c < 256) (hy : y < 256) : ∀ c ∈ m.set p y, c < 256 := by
  intro c hc
  rcases List.mem_or_eq_of_mem_set hc with hc | rfl
  · exact hm c hc
  · exact hy

set_option maxHeartbeats 4000000 in
set_option maxRecDepth 100000 in
theorem parses_walk (A : Option Addr) (n c : Nat) (bs : List Nat) (w : World) (hr : Rd w w.heap.size A n (bys bs)) (hb : ∀ c ∈ bs, c < 256) (hnc : n ≤ c) (hcm : c ≤ maxLen) :
    Calls Try.prog 4 #[.slice A n c] w fun e w' => e = .returned (.bool true) ∧ Below w.heap.size w w' := by
  obtain ⟨i5, hi5, hy0, hy1, hy2⟩ := info_parts Try.info5
  have HR := Lib.hid hr
  have HB := Lib.hid hb
  have hbl : bs.length = n := by have := hr.1; rwa [bys_len] at this
  have HBL := Lib.hid hbl
  have hn' : (n : Int) ≤ 9223372036854775807 := by unfold maxLen at hcm; omega
  clear hr hb hbl hcm
  by_cases h1 : 1000 < n
  · have h1' : (1000 : Int) < (n : Int) := by omega
    go_enter Try.func4, Try.ntmps4
    go_upto_region 3 with (go_at_call 9; refine (head_any _).mono ?_; rintro e w1 ⟨rfl, hb1⟩)
    go_wp2
    go_ret
    exact ⟨rfl, hb1⟩
  · have h1' : (n : Int) ≤ 1000 := by omega
    go_enter Try.func4, Try.ntmps4
    go_upto_region 3 with (go_at_call 9; refine (head_any _).mono ?_; rintro e w1 ⟨rfl, hb1⟩)
    have HB1 := Lib.hid hb1
    have s1 := hb1.size
    have hr1 := (HR.out.below hb1).up s1
    have hown : (w1.alloc (.cells #[] 5)).ownsRow w1.heap.size 5 1 (.slice (some ⟨w1.heap.size, 0, none⟩) 0 0) 0 [] := World.ownsRow_lit (e := 5) (size := 1) w1 #[] 0 (Nat.le_refl _) (by unfold maxLen; omega) rfl
    have hba : Below w1.heap.size w1 (w1.alloc (.cells #[] 5)) := (Below.refl _ _).alloc (Nat.le_refl _) _
    obtain ⟨v2, w2, run2, own2, gr2, _⟩ := run_appN (P := Try.prog) (w1.alloc (.cells #[] 5)) w1.heap.size 25 25 5 i5 _ 1 1 Try.underlying25 hi5 hy0 hy1 hy2 rfl (by omega) hown (hr1.below hba).toN (c := c) (bys_one _) (by unfold maxLen; omega) (by omega) (by simp)
    rw [Nat.zero_add, List.nil_append] at own2
    have HRUN := Lib.hid run2
    have HO2 := Lib.hid own2
    have hb12 := hba.grown gr2 (by simp) (fun k hk => by simp [Value.ownBlock] at hk; omega)
    have HB2 := Lib.hid (HB1.out.trans (hb12.mono s1))
    obtain ⟨A2, c2, rfl, hc2, hm2, hr2⟩ := own_rdN own2
    have HR2 := Lib.hid hr2.to1
    have HPA := Lib.hid (parse_any A2 n c2 bs w2 hr2.to1 HB.out (by omega) hc2 hm2)
    obtain ⟨er, her⟩ : ∃ er : Int, er = if parseOk bs then 0 else 2 := ⟨_, rfl⟩
    rw [← her] at HPA
    have HER := Lib.hid her
    clear her
    have HS12 := Lib.hid hb12.size
    clear hb1 hown hba run2 own2 gr2 hb12 hr1 hr2 hm2
    go_upto_region 5 with fail
    go_wp2_with (refine arm_append 25 (.tmp 15) (.tmp 16) (v' := ?_) (w' := ?_) ?hr2 ?_; case hr2 => exact HRUN.out)
    refine HPA.out.mono ?_
    rintro e w3 ⟨v3, rfl, ho3, hb3, hok3, hl3⟩
    have HO3 := Lib.hid ho3
    have HB3 := Lib.hid hb3
    have HOK3 := Lib.hid hok3
    have hl3' : ((parL bs).length : Int) ≤ 1000000 := by omega
    obtain ⟨A3, c3, rfl, _, _, hr3⟩ := own_rdN ho3
    have hlt2 : ∀ k, (Value.slice A2 n c2).ownBlock = some k → w1.heap.size ≤ k ∧ k < w2.heap.size := HO2.out.lt
    clear ho3 hb3 hok3 hr3 HPA
    have HMADE := Lib.hid (parse_made bs)
    have HPL : Hid (parL bs = if parseOk bs then (readM bs).1 else []) := Lib.hid rfl
    generalize parL bs = L at *
    go_upto_region 7 with fail
    obtain ⟨w5, hw5⟩ : ∃ w5, w5 = w3.alloc (.cells #[.slice A3 L.length c3] 35) := ⟨_, rfl⟩
    rw [← hw5]
    have b5 : Below w3.heap.size w3 w5 := by rw [hw5]; exact (Below.refl _ _).alloc (Nat.le_refl _) _
    obtain ⟨gp, hgp⟩ : ∃ gp, gp = w3.heap.size := ⟨_, rfl⟩
    have c5 : w5.cell? ⟨gp, 0, none⟩ = some (.slice A3 L.length c3) := by rw [hw5, hgp, World.cell?_alloc_mark]; rfl
    rw [← hgp]
    have s23 := HB3.out.size
    have HM5 : Hid (w5.ownsRow w1.heap.size 5 1 (.slice A2 n c2) n (bys bs)) := Lib.hid (ownN_keep HO2.out (fun k hk => (b5.block k (by have := (hlt2 k hk).2; omega)).trans (HB3.out.block k (hlt2 k hk).2)))
    have HL5 : Hid (w5.ownsRow w2.heap.size 30 2 (.slice A3 L.length c3) L.length (prC2 L)) := Lib.hid (ownN_keep HO3.out (fun k hk => b5.block k (HO3.out.lt k hk).2))
    have HB5 := Lib.hid (HB2.out.trans ((HB3.out.trans (b5.mono s23)).mono HB2.out.size))
    have HC5 := Lib.hid c5
    have z5 : gp < w5.heap.size := World.block_lt_of_cell? _ _ c5
    have HGP := Lib.hid hgp
    clear hw5 b5 c5 hgp
    go_upto_region 8 with fail
    go_loopg [6, 25] n (fun kx v6 v25 wr => ∃ (j : Nat) (ms : List Nat), j ≤ n ∧ kx = n - j ∧ v25 = .int .i64 (j : Int) ∧ Hid (ms.length = n ∧ (∀ x ∈ ms, x < 256) ∧ wr.ownsRow w1.heap.size 5 1 (.slice A2 n c2) n (bys ms) ∧ Tch w5 wr (Value.slice A2 n c2).ownBlock.toList))
    case atStart => exact ⟨0, bs, Nat.zero_le _, rfl, rfl, Lib.hid ⟨HBL.out, HB.out, HM5.out, Tch.refl _ _⟩⟩
    case round =>
      obtain ⟨j, ms, hj, hkx, rfl, HI⟩ := hrel
      have HX := Lib.hid hkx
      clear hkx
      by_cases hlj : j < n
      · have hlj' : (j : Int) < (n : Int) := by omega
        obtain ⟨g, cap, e1, _, _, _, _⟩ := own_open HI.out.2.2.1 (by omega)
        injection e1 with e1 e2 e3
        subst e1
        subst e3
        obtain ⟨g', off, e1, _, hc⟩ := (own_rd HI.out.2.2.1).2 (by omega)
        injection e1 with e1
        injection e1 with e1 e2
        subst e1
        subst e2
        have hcb := hc j _ (bys_get ms j (by rw [HI.out.1]; exact hlj))
        rw [Nat.zero_add] at hcb
        have hfz := HI.out.2.2.1.frozenAt j
        have hcl := getD_lt HI.out.2.1 j
        have hx : bits BinOp.xor IntKind.u8 ((ms.getD j 0 : Nat) : Int) 255 = ((ms.getD j 0 ^^^ 255 : Nat) : Int) := u8_xor_nat (ms.getD j 0) 255 hcl (by decide)
        have hyl := xor255 _ hcl
        have HNX : Hid (∀ y : Nat, y < 256 → (ms.set j y).length = n ∧ (∀ x ∈ ms.set j y, x < 256) ∧ (wr.setCell ⟨g, j, none⟩ (.int .u8 (y : Int))).ownsRow w1.heap.size 5 1 (.slice (some ⟨g, 0, none⟩) n c2) n (bys (ms.set j y)) ∧ Tch w5 (wr.setCell ⟨g, j, none⟩ (.int .u8 (y : Int))) (Value.slice (some ⟨g, 0, none⟩) n c2).ownBlock.toList) := Lib.hid (fun y hy => by
          obtain ⟨h1, h2⟩ := HI.out.2.2.1.stored j (.int .u8 (y : Int))
          refine ⟨by rw [List.length_set]; exact HI.out.1, set_lt' ms j y HI.out.2.1 hy, by simpa [bys, List.map_set] using h1, HI.out.2.2.2.trans (Tch.of_grown (grown_setCell wr _ _) (L := [g]) (by simp)) (by intro i hi; left; simpa [Value.ownBlock] using hi)⟩)
        generalize ms.getD j 0 = x at *
        have hxi : (x : Int) ≤ 255 := by omega
        generalize x ^^^ 255 = y at *
        have HNY := Lib.hid (HNX.out y hyl)
        clear hc hcl hyl HNX
        go_wp2
        go_roundg (n - (j + 1))
        case measure => have := HX.out; omega
        case rel => exact ⟨j + 1, ms.set j y, by omega, rfl, by go_num, HNY⟩
      · obtain rfl : j = n := by omega
        have TT := HI.out.2.2.2
        have hnl : ∀ k, w2.heap.size ≤ k → k ∉ (Value.slice A2 j c2).ownBlock.toList := fun k hk hm => by
          simp only [Option.mem_toList] at hm
          have := (hlt2 k hm).2
          omega
        have c6 := (World.cell?_of_block (w := w5) (a := ⟨gp, 0, none⟩) (TT.block gp z5 (hnl gp (by rw [HGP.out]; exact s23)))).trans HC5.out
        have HL6 : Hid (wr.ownsRow w2.heap.size 30 2 (.slice A3 L.length c3) L.length (prC2 L)) := Lib.hid (ownN_keep HL5.out (fun k hk => TT.block k (HL5.out.lt k hk).2 (hnl k (HL5.out.lt k hk).1)))
        have HB6 : Hid (Below w.heap.size w wr) := Lib.hid (HB5.out.trans (TT.below HB5.out.size (fun i hi => by simp only [Option.mem_toList] at hi; have := (hlt2 i hi).1; omega)))
        obtain ⟨A3', c3', e3, _, _, hr6⟩ := own_rdN HL6.out
        injection e3 with e1 e2 e3
        subst e1
        subst e3
        have HAL := Lib.hid (all_any A3 c3 L wr hr6 hl3')
        clear TT hr6
        go_upto_region 12 with fail
        go_wp2_with fail
        refine HAL.out.mono ?_
        rintro e w7 ⟨v7, rfl, ho7, hb7⟩
        have HB7 := Lib.hid (HB6.out.trans (hb7.mono HB6.out.size))
        obtain ⟨A7, c7, rfl, _, _, hr7⟩ := own_rdN ho7
        have HMK := Lib.hid (make_any A7 c7 L w7 hr7 HOK3.out hl3')
        clear ho7 hb7 hr7 c6
        cases hp : parseOk bs with
        | false =>
          rw [hp, if_neg (by simp)] at HPL HER
          have her := HER.out
          subst her
          have hL0 : L.length = 0 := by rw [HPL.out]; rfl
          clear HMADE
          go_wp2
          go_ret
          exact ⟨rfl, HB7.out⟩
        | true =>
          rw [hp, if_pos rfl] at HPL HER
          have her := HER.out
          subst her
          have hmk := HMADE.out hp
          rw [← HPL.out] at hmk
          rw [hmk] at HMK
          go_wp2_with fail
          refine HMK.out.mono ?_
          rintro e w8 ⟨v8, rfl, hf8, hb8⟩
          obtain ⟨A8, c8, rfl, _, hr8⟩ := hf8.slice
          have HB8 := Lib.hid (HB7.out.trans (hb8.mono HB7.out.size))
          have k8 := run_conv (P := Try.prog) c8 hr8 25 9 5 Try.underlying25 Try.underlying5 Try.underlying9
          have kb := run_conv (P := Try.prog) c (HR.out.below HB8.out) 25 9 5 Try.underlying25 Try.underlying5 Try.underlying9
          clear hf8 hb8 hr8
          generalize strB bs = S at *
          go_wp2
          go_ret
          exact ⟨by simp, HB8.out⟩
end Go.Proofs.Ytalcdmpjpphopaa
