/- The reference: the root. -/
import Derived.Test.YtnlmejpimjjaaaaDoorQ4
namespace Go.Proofs.YtnlmejpimjjaaaaDoor
set_option linter.unusedSimpArgs false
set_option linter.unusedVariables false
open Go.RowKit

theorem rowK_pos (hs : List (List Nat)) (h : 0 < hs.length) : ∀ k, 0 < (rowK hs k).length
  | 0 => h
  | k + 1 => by show 0 < (abv (rowK hs k)).length; rw [abv_len]; have := rowK_pos hs h k; omega

set_option maxHeartbeats 1000000 in
set_option maxRecDepth 100000 in
theorem refroot_any (TB : List Int) (eTB : TAB = TB) (A : Option Addr) (n c : Nat) (hs : List (List Nat)) (w : World) (hr : RH w w.heap.size A n hs) (hn : (n : Int) ≤ 100000) :
    Calls Tryd.prog 28 #[.agg (us TB).toArray, .slice A n c] w fun e w' => e = .returned (.agg (bys (root hs)).toArray) ∧ Below w.heap.size w w' := by
  have HL := Lib.hid hr.len
  have HI := Lib.hid hr.is_
  have HTB := Lib.hid eTB
  have tbl : (us TB).length = 72 := by rw [us_len, ← eTB]; decide
  have HZT := Lib.hid (show (Tryd.prog.info? 69).map (·.size) = some (us TB).length by rw [tbl]; exact Tryd.size69)
  obtain ⟨R, HR⟩ : ∃ R, Hid (R = root hs) := ⟨_, Lib.hid rfl⟩
  rw [← HR.out]
  have HRI : Hid (IsH R) := Lib.hid (by rw [HR.out]; exact root_is hs HI.out)
  have kt0 : Blk ((w.alloc (.cells (us TB).toArray 69)).alloc (.cells ZH 32)) w.heap.size 69 (us TB).toArray := heap_alloc2_old w _ _
  have kr0 : Blk ((w.alloc (.cells (us TB).toArray 69)).alloc (.cells ZH 32)) (w.heap.size + 1) 32 ZH := heap_alloc2_new w _ _
  have hB0 : Below w.heap.size w ((w.alloc (.cells (us TB).toArray 69)).alloc (.cells ZH 32)) := ((Below.refl _ _).alloc (Nat.le_refl _) _).alloc (by simp) _
  have hr0 := (hr.below hB0).up hB0.size
  clear eTB tbl
  by_cases h0 : n = 0
  · subst h0
    have hRZ : R = HZ := by rw [HR.out, root, if_pos HL.out]
    have HTN := Lib.hid (show ((w.alloc (.cells (us TB).toArray 69)).alloc (.cells ZH 32)).there (w.heap.size + 1) 0 ZH.size from kr0.there)
    have HZ1 := Lib.hid (show (Tryd.prog.info? 32).map (·.size) = some ZH.size by rw [ZH_size]; exact Tryd.size32)
    have HZ2 := Lib.hid (show ZH.all (·.oneCell') = true by decide +kernel)
    have HZ3 := Lib.hid (show (Tryd.prog.info? 32).map (·.size) = some ZH.toList.length by rw [Array.length_toList, ZH_size]; exact Tryd.size32)
    go_enter Tryd.func28, Tryd.ntmps28
    go_wp2_with (first
      | (refine wpList_of_wp rfl fun K hK => wp_alloc_arr 32 rfl ZH Tryd.zero32 (hK _ _ ?_); (try simp only [World.size_alloc]))
      | (refine wpList_of_wp rfl fun K hK => wp_build_arr 32 _ rfl 32 5 ZH ZH Tryd.underlying32 Tryd.zero32 Tryd.size5 (by simp [Instr.fill]) (hK _ _ ?_))
      | (refine wpList_store_mid rfl 32 (.tmp 4) (.tmp 9) rfl (w.heap.size + 1) 0 ZH rfl rfl HTN.out HZ1.out HZ2.out ?_))
    exact bodyPost_ret (results_arr rfl _ _ (w.heap.size + 1) ZH.toList _ rfl (World.rangeAt_setCells_same _ _ _ _ (by simpa using HTN.out)) Tryd.underlying32 rfl HZ3.out) rfl ⟨by rw [hRZ]; rfl, Below.setCells' hB0 _ _ (by omega) _⟩
  · have hnz : ((n : Int) == 0) = false := by simp; omega
    have hnz' : ¬ (n : Int) = 0 := by omega
    have HRT := Lib.hid kt0.range
    go_enter Tryd.func28, Tryd.ntmps28
    go_wp2_with (first
      | (refine wpList_of_wp rfl fun K hK => wp_alloc_arr 32 rfl ZH Tryd.zero32 (hK _ _ ?_); (try simp only [World.size_alloc]))
      | (refine wpList_load_mid rfl 69 (.tmp 2) rfl w.heap.size 0 rfl (us TB) _ HRT.out Tryd.underlying69 rfl HZT.out ?_))
    refine (rows_any TB HTB.out A n c hs _ hr0 hn).mono ?_
    rintro e w2 ⟨v2, vs, k, rfl, ho2, hra2, hlt, hle, hkn, hb2⟩
    have hB2 := hB0.trans (hb2.mono hB0.size)
    have kr2 := kr0.below hb2 kr0.lt
    have hvl : vs.length = k + 1 := by have := ho2.1; omega
    obtain ⟨u, hu⟩ : ∃ u, vs[k]? = some u := ⟨_, List.getElem?_eq_getElem (by omega)⟩
    obtain ⟨A1, c1, rfl, hr1, hn1⟩ := hra2 k u hu
    have hpos := rowK_pos hs (by rw [HL.out]; omega) k
    have hone : (rowK hs k).length = 1 := by omega
    have hRk : (rowK hs k).getD 0 [] = R := by rw [HR.out, root_rowK hs k hlt, root_one _ hone]
    rw [hone] at hr1 hu
    obtain ⟨g, cap, rfl, hgb, hgl, hKc, hcm⟩ := own_open ho2 (by omega)
    have hcell : w2.cell? ⟨g, k, none⟩ = some (.slice A1 1 c1) := by
      have := ho2.cellAt k (by omega)
      rw [this, hu]
    have hK1 : ((k + 1 : Nat) : Int) - 1 = (k : Int) := by omega
    obtain ⟨g1, off1, rfl, hg1, hx⟩ := hr1.elem 0 (by omega)
    rw [hRk, Nat.zero_mul, Nat.add_zero] at hx
    have HX := Lib.hid hx
    have HSZ := Lib.hid (sizeB R HRI.out)
    have hsz : (bys R).toArray.size = 32 := by simp [bys_len, HRI.out.1]
    have HTH := Lib.hid (show w2.there (w.heap.size + 1) 0 (bys R).toArray.size by rw [hsz]; exact kr2.there)
    have hkn' : (k : Int) ≤ 100000 := by omega
    clear hx hr1 hRk hsz hra2 ho2 hu hvl hn1 hpos hone hlt hle hb2 kr2 kr0 kt0 hB0 hr0 HRT
    go_wp2_with (first
      | (refine wpList_load_mid rfl 32 (.tmp 19) rfl g1 off1 rfl (bys R) _ HX.out Tryd.underlying32 rfl HSZ.out ?_)
      | (refine wpList_store_mid rfl 32 (.tmp 4) (.tmp 20) rfl (w.heap.size + 1) 0 (bys R).toArray rfl rfl HTH.out (by simpa using HSZ.out) (all_oneCell_toArray (bys_one _)) ?_))
    exact bodyPost_ret (results_arr rfl _ _ (w.heap.size + 1) (bys R) _ rfl (World.rangeAt_setCells_same _ _ _ _ (by simpa using HTH.out)) Tryd.underlying32 rfl HSZ.out) rfl ⟨rfl, Below.setCells' hB2 _ _ (by omega) _⟩
end Go.Proofs.YtnlmejpimjjaaaaDoor
