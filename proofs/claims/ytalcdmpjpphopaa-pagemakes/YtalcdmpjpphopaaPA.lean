/- The law's head. -/
import Derived.Test.YtalcdmpjpphopaaP9
namespace Go.Proofs.Ytalcdmpjpphopaa
set_option linter.unusedSimpArgs false
set_option linter.unusedVariables false
open Go.RowKit

set_option maxHeartbeats 2000000 in
set_option maxRecDepth 100000 in
theorem head_any (w : World) : Calls Try.prog 9 #[] w fun e w' => e = .returned (.bool true) ∧ Below w.heap.size w w' := by
  have H0 := Lib.hid (fun W => make_any none 0 [] W (RdN.nil _ _ _ _) (by simp) (by decide))
  simp only [mk_nil, List.length_nil, List.length_cons, Nat.zero_add, Nat.reduceAdd] at H0
  have HK : okP ([97], [120]) := by refine ⟨by decide, by decide, by decide, by decide⟩
  have H1 := Lib.hid (fun W A c hr => make_any A c [([97], [120])] W hr (by intro p hp; simp at hp; subst hp; exact HK) (by decide))
  simp only [mk_one, List.length_nil, List.length_cons, Nat.zero_add, Nat.reduceAdd] at H1
  have hb1l : b1.length = 13 := rfl
  rw [hb1l] at H1
  have HP := Lib.hid (fun W A c (hr : Rd W W.heap.size A 13 (bys b1)) (hnc : 13 ≤ c) (hcm : c ≤ maxLen) => parse_any A 13 c b1 W hr (by decide) (by decide) hnc hcm)
  have hpl : parL b1 = [([97], [120])] := by unfold parL; rw [parse_one, if_pos rfl, read_one]
  simp only [parse_one, hpl, if_pos, List.length_nil, List.length_cons, Nat.zero_add, Nat.reduceAdd] at HP
  have HAL := Lib.hid (fun W A c hr => all_any A c [([97], [120])] W hr (by decide))
  simp only [List.length_nil, List.length_cons, Nat.zero_add, Nat.reduceAdd] at HAL
  have hs0 : strB [0, 0, 0, 0] = { data := #[0, 0, 0, 0] } := rfl
  have hs1 : strB b1 = { data := #[0, 1, 1, 97, 120, 0, 0, 0, 0, 1, 0, 0, 0] } := rfl
  go_enter Try.func9, Try.ntmps9
  go_wp2_with fail
  refine (H0.out w).mono ?_
  rintro e w1 ⟨v1, rfl, hf1, hb1⟩
  obtain ⟨A1, c1, rfl, _, hr1⟩ := hf1.slice
  have HB1 := Lib.hid hb1
  have HR1 := Lib.hid hr1
  have s1 := hb1.size
  clear hf1 hb1 hr1
  go_upto_region 2 with fail
  have hlit := lit_pr w1 ([97], [120]) #[(0, .agg #[.string { data := #[97] }, .string { data := #[120] }])] rfl
  have HLIT := Lib.hid hlit
  have hrd : RdN (w1.alloc (.cells (prC2 [([97], [120])]).toArray 30)) (w1.alloc (.cells (prC2 [([97], [120])]).toArray 30)).heap.size 2 (some ⟨w1.heap.size, 0, none⟩) 1 (prC2 [([97], [120])]) := by
    have := RdN.new w1 2 1 (prC2 [([97], [120])]) 30 (0, 0) rfl
    rw [World.size_alloc]
    exact this
  have HM1 := Lib.hid (H1.out _ _ 1 hrd)
  have HR2 := Lib.hid ((HR1.out.below ((Below.refl _ _).alloc (Nat.le_refl _) (.cells (prC2 [([97], [120])]).toArray 30))).up (B' := (w1.alloc (.cells (prC2 [([97], [120])]).toArray 30)).heap.size) (by simp))
  have HB2 := Lib.hid (HB1.out.alloc s1 (.cells (prC2 [([97], [120])]).toArray 30))
  generalize w1.alloc (.cells (prC2 [([97], [120])]).toArray 30) = w2 at *
  generalize w1.heap.size = gx at *
  clear hlit hrd
  go_wp2_with (refine arm_build1 22 (.tmp 12) (v' := ?_) (w' := ?_) ?hr ?_; case hr => exact HLIT.out)
  refine HM1.out.mono ?_
  rintro e w3 ⟨v3, rfl, hf3, hb3⟩
  have hcm3 : ∃ A c, v3 = .slice A 13 c ∧ 13 ≤ c ∧ c ≤ maxLen ∧ Rd w3 w3.heap.size A 13 (bys b1) := by
    obtain ⟨A, c, rfl, h1, h2⟩ := hf3.slice
    exact ⟨A, c, rfl, h1, hf3.cap_le, h2⟩
  obtain ⟨A3, c3, rfl, hc3, hm3, hr3⟩ := hcm3
  have HB3 := Lib.hid (HB2.out.trans (hb3.mono HB2.out.size))
  have HR3 := Lib.hid hr3
  have HR3a := Lib.hid ((HR2.out.below hb3).up hb3.size)
  have HPP := Lib.hid (HP.out w3 A3 c3 hr3 hc3 hm3)
  clear hf3 hb3 hr3 hm3 hc3
  go_upto_region 3 with fail
  go_wp2_with fail
  refine HPP.out.mono ?_
  rintro e w4 ⟨v4, rfl, ho4, hb4, _, _⟩
  have HB4 := Lib.hid (HB3.out.trans (hb4.mono HB3.out.size))
  have HR4 := Lib.hid ((HR3.out.below hb4).up hb4.size)
  have HR4a := Lib.hid ((HR3a.out.below hb4).up hb4.size)
  obtain ⟨A4, c4, rfl, _, _, hr4⟩ := own_rdN ho4
  have HQ4 := Lib.hid hr4
  have s4 := HB4.out.size
  clear ho4 hb4 hr4
  go_upto_region 4 with fail
  obtain ⟨w5, hw5⟩ : ∃ w5, w5 = w4.alloc (.cells #[.slice A4 1 c4] 35) := ⟨_, rfl⟩
  rw [← hw5]
  have b5 : Below w4.heap.size w4 w5 := by rw [hw5]; exact (Below.refl _ _).alloc (Nat.le_refl _) _
  have c5 : w5.cell? ⟨w4.heap.size, 0, none⟩ = some (.slice A4 1 c4) := by rw [hw5, World.cell?_alloc_mark]; rfl
  have HB5 := Lib.hid (HB4.out.trans (b5.mono s4))
  have hra := (HR4a.out.below b5).up b5.size
  have hrc := (HR4.out.below b5).up b5.size
  have kca := run_conv (P := Try.prog) c1 hra 25 9 5 Try.underlying25 Try.underlying5 Try.underlying9
  have kcc := run_conv (P := Try.prog) c3 hrc 25 9 5 Try.underlying25 Try.underlying5 Try.underlying9
  rw [hs0] at kca
  rw [hs1] at kcc
  have HA5 := Lib.hid (HAL.out w5 A4 c4 ((HQ4.out.below b5).up b5.size))
  obtain ⟨g5, hg5⟩ : ∃ g5, g5 = w4.heap.size := ⟨_, rfl⟩
  rw [← hg5] at c5 ⊢
  clear hw5 b5 hra hrc hg5
  go_wp2_with fail
  refine HA5.out.mono ?_
  rintro e w6 ⟨v6, rfl, ho6, hb6⟩
  obtain ⟨A6, c6, rfl, _, _, _⟩ := own_rdN ho6
  have HB6 := Lib.hid (HB5.out.trans (hb6.mono HB5.out.size))
  clear ho6 hb6
  go_wp2
  go_ret
  exact ⟨rfl, HB6.out⟩
end Go.Proofs.Ytalcdmpjpphopaa
