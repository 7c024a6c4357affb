/- The walk of BlockBranches. -/
import Derived.Test.YtkokbpifjpmhlaaDoorP3
import Derived.Test.YtkokbpifjpmhlaaDoorArrIn
namespace Go.Proofs.YtkokbpifjpmhlaaDoor
set_option linter.unusedSimpArgs false
set_option linter.unusedVariables false
open Go.RowKit

theorem brk_same (hs : List (List Nat)) (k l : Nat) (h1 : ∀ i, i < k → 1 < (rowK hs i).length) (h2 : (rowK hs k).length ≤ 1) (h3 : ∀ i, i < l → 1 < (rowK hs i).length) (h4 : (rowK hs l).length ≤ 1) : k = l := by
  rcases Nat.lt_trichotomy k l with h | h | h
  · have := h3 k h; omega
  · exact h
  · have := h1 l h; omega

set_option maxHeartbeats 600000 in
set_option maxRecDepth 100000 in
theorem branches_long (A : Option Addr) (n c : Nat) (a : Int) (w : World) (ht : TabAt w) (h : (12 : Int) < n) :
    Calls Tryd.prog 4 #[.slice A n c, .int .i64 a] w fun e w' => e = .returned (.bool true) ∧ Below w.heap.size w w' := by
  have HT := Lib.hid ht
  clear ht
  go_enter Tryd.func4, Tryd.ntmps4
  go_wp2_with fail
  refine (bhead_any _ HT.out).mono ?_
  rintro e w1 ⟨rfl, hb1⟩
  go_wp2
  go_ret
  exact ⟨rfl, hb1⟩

set_option maxHeartbeats 4000000 in
set_option maxRecDepth 100000 in
theorem branches_walk (A : Option Addr) (n c : Nat) (at_ : Int) (hs : List (List Nat)) (w : World) (hr : RH w w.heap.size A n hs) (ht : TabAt w) (h : (n : Int) ≤ 12) :
    Calls Tryd.prog 4 #[.slice A n c, .int .i64 at_] w fun e w' => e = .returned (.bool true) ∧ Below w.heap.size w w' := by
  have HT := Lib.hid ht
  have HI := Lib.hid hr.is_
  have HL := Lib.hid hr.len
  have HR := Lib.hid hr
  have hd12 : decide ((12 : Int) < (n : Int)) = false := by simp; omega
  obtain ⟨TB, eTB⟩ : ∃ TB, TAB = TB := ⟨_, rfl⟩
  have HTB := Lib.hid eTB
  have HMK := Lib.hid (fun w => show Calls Tryd.prog 13 #[] w fun e w' => e = .returned (.agg (us TB).toArray) ∧ Below w.heap.size w w' by rw [← eTB]; exact make_any w)
  clear ht eTB hr
  by_cases hin : at_ < 0 ∨ (n : Int) ≤ at_
  · have HBN := Lib.hid (fun W => branch_none A n c at_ W hin)
    go_enter Tryd.func4, Tryd.ntmps4
    go_wp2_with fail
    refine (bhead_any _ HT.out).mono ?_
    rintro e w1 ⟨rfl, hb1⟩
    have HB1 := Lib.hid hb1
    clear hb1
    go_wp2_with fail
    refine (HBN.out _).mono ?_
    rintro e w' ⟨rfl, rfl⟩
    by_cases h0 : at_ < 0
    · clear hin
      go_wp2
      go_ret
      exact ⟨rfl, HB1.out⟩
    · have hn : (n : Int) ≤ at_ := by omega
      clear hin
      go_wp2
      go_ret
      exact ⟨rfl, HB1.out⟩
  · obtain ⟨a, rfl⟩ : ∃ a : Nat, at_ = (a : Int) := ⟨at_.toNat, by omega⟩
    have ha : a < n := by omega
    have HBA := Lib.hid (fun W hr ht => branch_any A n c a hs W hr ha (by omega) ht)
    have hai : (a : Int) < (n : Int) := by omega
    have ha0 : ¬ (a : Int) < 0 := by omega
    have ha1 : ¬ (n : Int) ≤ (a : Int) := by omega
    clear hin
    go_enter Tryd.func4, Tryd.ntmps4
    go_wp2_with fail
    refine (bhead_any _ HT.out).mono ?_
    rintro e w1 ⟨rfl, hb1⟩
    have HB1 := Lib.hid hb1
    clear hb1
    go_wp2_with fail
    refine (HBA.out w1 ((HR.out.below HB1.out).up HB1.out.size) (HT.out.below HB1.out HT.out.1)).mono ?_
    rintro e w2 ⟨v5, k, rfl, ho2, hlt, hle, hkn, hb2⟩
    have HB2 := Lib.hid (HB1.out.trans (hb2.mono HB1.out.size))
    have hbi := brs_is hs a HI.out k hlt
    have hbl := brs_len hs a k
    obtain ⟨A5, c5, rfl, hc5, hm5, hr5⟩ := own_RH ho2 hbl hbi
    have HCLM := Lib.hid (clm_root hs a (by rw [HL.out]; exact ha) k hlt hle)
    have HR5 := Lib.hid hr5
    have HLT := Lib.hid hlt
    have HLEK := Lib.hid hle
    have HBI := Lib.hid hbi
    have HBL := Lib.hid hbl
    have hkn' : (k : Int) ≤ 12 := by omega
    clear ho2 hlt hle hb2 hbi hbl hr5 HBA hc5 hm5
    go_upto_region 8 with fail
    go_wp2_with fail
    refine (HMK.out _).mono ?_
    rintro e w3 ⟨rfl, hb3⟩
    have HB3 := Lib.hid (HB2.out.trans (hb3.mono HB2.out.size))
    have HR53 := Lib.hid ((HR5.out.below hb3).up hb3.size)
    clear hb3 HMK
    go_wp2_with fail
    refine (raw_any A n c hs w3 ((HR.out.below HB3.out).up HB3.out.size) (by omega)).mono ?_
    rintro e w4 ⟨v4, rfl, ho4, hb4⟩
    have HB4 := Lib.hid (HB3.out.trans (hb4.mono HB3.out.size))
    have HR54 := Lib.hid ((HR53.out.below hb4).up hb4.size)
    obtain ⟨A4, c4, rfl, _, _, hr4⟩ := own_b32 ho4 HL.out HI.out
    have HRB := Lib.hid (refbranch_any TB HTB.out A4 n c4 a hs w4 hr4 ha (by omega))
    clear ho4 hb4 hr4
    go_wp2_with fail
    refine HRB.out.mono ?_
    rintro e w5 ⟨v7, k7, rfl, ho5, hlt7, hle7, hkn7, hb5⟩
    obtain rfl : k = k7 := brk_same hs k k7 HLT.out HLEK.out hlt7 hle7
    have HB5 := Lib.hid (HB4.out.trans (hb5.mono HB4.out.size))
    have HR55 := Lib.hid ((HR54.out.below hb5).up hb5.size)
    obtain ⟨A7, c7, rfl, _, _, hr7⟩ := own_b32 ho5 HBL.out HBI.out
    have HR7 := Lib.hid hr7
    clear ho5 hb5 hr7 hlt7 hle7 hkn7 HRB
    go_upto_region 12 with fail
    go_loopg [51] k (fun kx i wr => ∃ (j : Nat), kx = k - j ∧ j ≤ k ∧ i = .int .i64 (j : Int) ∧ ∃ m, wr = w5.drewN m)
    case atStart => exact ⟨0, rfl, Nat.zero_le _, rfl, 0, rfl⟩
    case round =>
      obtain ⟨j, hk, hj, rfl, m, rfl⟩ := hrel
      have HK := Lib.hid hk
      clear hk
      by_cases hlt : j < k
      · have hlt' : (j : Int) < (k : Int) := by omega
        obtain ⟨g, off, rfl, hg, hx1⟩ := HR55.out.elem j hlt
        obtain ⟨g3, off3, rfl, hg3, hx3⟩ := HR7.out.elem j hlt
        have HY := Lib.hid (HR7.out.isAt j hlt)
        generalize (brs hs a k).getD j [] = Y at *
        have HX1 : Hid (∀ wx : World, wx.heap = w5.heap → wx.rangeAt g (off + j * 32) (bys Y)) := Lib.hid fun wx e i u hu => by
          have := hx1 i u hu
          rw [← this]; exact World.cell?_of_block (w := w5) (a := ⟨g, off + j * 32 + i, none⟩) (by rw [e])
        have HX3 : Hid (∀ wx : World, wx.heap = w5.heap → wx.rangeAt g3 (off3 + j * 32) (bys Y)) := Lib.hid fun wx e i u hu => by
          have := hx3 i u hu
          rw [← this]; exact World.cell?_of_block (w := w5) (a := ⟨g3, off3 + j * 32 + i, none⟩) (by rw [e])
        have heq := fun wx => h_eql1 Y HY.out wx
        have hgd := fun wx => run_eqGuard_agg (P := Tryd.prog) wx .neq 23 (.tmp 57) (.tmp 61) (bys Y).toArray (bys Y).toArray Tryd.eqg23
        clear hx1 hx3
        go_upto_region 14 with fail
        refine wp_region_noPanic ?_
        refine wp_region_held_drew (S := (fun wx => ∃ m, wx = w5.drewN m)) (by kernel_rfl) (⟨m + 1, rfl⟩) (fun hHeld => ?_)
        refine wpAnyH_take (i := 0) (v := ?_) (by simp only [List.getElem?_toArray, List.getElem?_cons_succ, List.getElem?_cons_zero]; rfl) (by kernel_rfl) (by kernel_rfl) (by kernel_rfl) (fun _ _ _ h => h) (Or.inl ⟨by rfl, ?_⟩) (by assumption) ?_
        rotate_left
        · (intro w hSw; (try dsimp only at hSw); go_simp; (try with_reducible rfl))
        (try simp only [Act.put, List.setIfInBounds_toArray, List.set_cons_zero, List.set_cons_succ])
        refine wpAnyH_take (i := 1) (v := ?_) (by simp only [List.getElem?_toArray, List.getElem?_cons_succ, List.getElem?_cons_zero]; rfl) (by kernel_rfl) (by kernel_rfl) (by kernel_rfl) (fun _ _ _ h => h) (Or.inl ⟨by rfl, ?_⟩) (by assumption) ?_
        rotate_left
        · (intro w hSw; (try dsimp only at hSw); go_simp; (try with_reducible rfl))
        (try simp only [Act.put, List.setIfInBounds_toArray, List.set_cons_zero, List.set_cons_succ])
        refine wpAnyH_take (i := 2) (v := ?_) (by simp only [List.getElem?_toArray, List.getElem?_cons_succ, List.getElem?_cons_zero]; rfl) (by kernel_rfl) (by kernel_rfl) (by kernel_rfl) (fun _ _ _ h => h) (Or.inl ⟨by rfl, ?_⟩) (by assumption) ?_
        rotate_left
        · (intro w hSw; (try dsimp only at hSw); go_simp; (try with_reducible rfl))
        (try simp only [Act.put, List.setIfInBounds_toArray, List.set_cons_zero, List.set_cons_succ])
        refine wpAnyH_take (i := 3) (v := .agg (bys Y).toArray) (by simp only [List.getElem?_toArray, List.getElem?_cons_succ, List.getElem?_cons_zero]; rfl) (by kernel_rfl) (by kernel_rfl) (by kernel_rfl) (fun _ _ _ h => h) (yieldsIf_load_mid (by rfl) 23 (.tmp 56) rfl g (off + j * 32) rfl (bys Y) _ (fun wx hx => HX1.out wx (by obtain ⟨m, rfl⟩ := hx; rfl)) Tryd.underlying23 rfl (sizeH Y HY.out)) (by assumption) ?_
        (try simp only [Act.put, List.setIfInBounds_toArray, List.set_cons_zero, List.set_cons_succ])
        refine wpAnyH_take (i := 4) (v := ?_) (by simp only [List.getElem?_toArray, List.getElem?_cons_succ, List.getElem?_cons_zero]; rfl) (by kernel_rfl) (by kernel_rfl) (by kernel_rfl) (fun _ _ _ h => h) (Or.inl ⟨by rfl, ?_⟩) (by assumption) ?_
        rotate_left
        · (intro w hSw; (try dsimp only at hSw); go_simp; (try with_reducible rfl))
        (try simp only [Act.put, List.setIfInBounds_toArray, List.set_cons_zero, List.set_cons_succ])
        refine wpAnyH_take (i := 5) (v := ?_) (by simp only [List.getElem?_toArray, List.getElem?_cons_succ, List.getElem?_cons_zero]; rfl) (by kernel_rfl) (by kernel_rfl) (by kernel_rfl) (fun _ _ _ h => h) (Or.inl ⟨by rfl, ?_⟩) (by assumption) ?_
        rotate_left
        · (intro w hSw; (try dsimp only at hSw); go_simp; (try with_reducible rfl))
        (try simp only [Act.put, List.setIfInBounds_toArray, List.set_cons_zero, List.set_cons_succ])
        refine wpAnyH_take (i := 6) (v := ?_) (by simp only [List.getElem?_toArray, List.getElem?_cons_succ, List.getElem?_cons_zero]; rfl) (by kernel_rfl) (by kernel_rfl) (by kernel_rfl) (fun _ _ _ h => h) (Or.inl ⟨by rfl, ?_⟩) (by assumption) ?_
        rotate_left
        · (intro w hSw; (try dsimp only at hSw); go_simp; (try with_reducible rfl))
        (try simp only [Act.put, List.setIfInBounds_toArray, List.set_cons_zero, List.set_cons_succ])
        refine wpAnyH_take (i := 7) (v := .agg (bys Y).toArray) (by simp only [List.getElem?_toArray, List.getElem?_cons_succ, List.getElem?_cons_zero]; rfl) (by kernel_rfl) (by kernel_rfl) (by kernel_rfl) (fun _ _ _ h => h) (yieldsIf_load_mid (by rfl) 22 (.tmp 60) rfl g3 (off3 + j * 32) rfl (bys Y) _ (fun wx hx => HX3.out wx (by obtain ⟨m, rfl⟩ := hx; rfl)) Tryd.underlying22 rfl (sizeB Y HY.out)) (by assumption) ?_
        (try simp only [Act.put, List.setIfInBounds_toArray, List.set_cons_zero, List.set_cons_succ])
        refine wpAnyH_take (i := 8) (v := .bool false) (by simp only [List.getElem?_toArray, List.getElem?_cons_succ, List.getElem?_cons_zero]; rfl) (by kernel_rfl) (by kernel_rfl) (by kernel_rfl) (fun _ _ _ h => h) (Or.inl ⟨by rfl, ?_⟩) (by assumption) ?_
        · (intro w hSw; (try dsimp only at hSw); go_simp; skip)
        (try simp only [Act.put, List.setIfInBounds_toArray, List.set_cons_zero, List.set_cons_succ])
        refine wpAnyH_done (by kernel_rfl) ?_ _
        refine NoPanic.normal ?_
        clear heq hgd hHeld
        go_wp2_with fail
        go_roundg (k - (j + 1))
        case measure => have := HK.out; omega
        case rel => exact ⟨j + 1, rfl, by omega, by go_num, m + 1, rfl⟩
      · have hdec : decide ((j : Int) < (k : Int)) = false := by simp; omega
        have hb6 : Below w5.heap.size w5 (w5.drewN m) := Below.drewN' (Below.refl _ _) m
        have HB6 := Lib.hid (HB5.out.trans (hb6.mono HB5.out.size))
        have hr6 := (HR.out.below HB6.out).up HB6.out.size
        obtain ⟨g, off, rfl, hg, hx1⟩ := hr6.elem a ha
        have HXI := Lib.hid (hr6.isAt a ha)
        have hR5 := (HR55.out.below hb6).up hb6.size
        have HCL := Lib.hid (climb_any (hs.getD a []) (a : Int) A5 k c5 (brs hs a k) (w5.drewN m) (hr6.isAt a ha) hR5 (by omega) (HT.out.below HB6.out HT.out.1))
        rw [HCLM.out] at HCL
        have HRO := Lib.hid (fun W (hb : Below (w5.drewN m).heap.size (w5.drewN m) W) => root_any (some ⟨g, off, none⟩) n c hs W ((hr6.below hb).up hb.size) (by omega) (HT.out.below (HB6.out.trans (hb.mono HB6.out.size)) HT.out.1))
        have HRI : Hid (IsH (root hs)) := Lib.hid (root_is hs HI.out)
        generalize root hs = R at *
        generalize hs.getD a [] = X at *
        have HX1 := Lib.hid hx1
        have HSX := Lib.hid (sizeH X HXI.out)
        have heq := fun wx => h_eql1 R HRI.out wx
        have hgd := fun wx => run_eqGuard_agg (P := Tryd.prog) wx .eql 23 (.tmp 70) (.tmp 72) (bys R).toArray (bys R).toArray Tryd.eqg23
        clear hx1 hr6 hR5 hb6
        generalize w5.drewN m = w6 at *
        go_wp2_with (first
          | (refine wpList_load_mid rfl 23 (.tmp 66) rfl g (off + a * 32) rfl (bys X) _ HX1.out Tryd.underlying23 rfl HSX.out ?_))
        refine HCL.out.mono ?_
        rintro e w7 ⟨rfl, hb7⟩
        have HB7 := Lib.hid hb7
        clear hb7
        go_wp2_with fail
        refine (HRO.out _ HB7.out).mono ?_
        rintro e w8 ⟨rfl, hb8⟩
        have hfin := HB6.out.trans ((HB7.out.trans (hb8.mono HB7.out.size)).mono HB6.out.size)
        clear hb8
        go_wp2_with fail
        go_ret
        exact ⟨rfl, hfin⟩
end Go.Proofs.YtkokbpifjpmhlaaDoor
