/- The root; a climb. -/
import Derived.Test.YtkokbpifjpmhlaaDoorB2
namespace Go.Proofs.YtkokbpifjpmhlaaDoor
set_option linter.unusedSimpArgs false
set_option linter.unusedVariables false
open Go.RowKit

theorem Tryd.size5 : (Tryd.prog.info? 5).map (·.size) = some 1 := by kernel_rfl
theorem own_RH {w : World} {base : Nat} {v : Value} {n : Nat} {hs : List (List Nat)} (h : w.ownsRow base 23 32 v n (flatH hs)) (hl : hs.length = n) (hi : ∀ x ∈ hs, IsH x) : ∃ A c, v = .slice A n c ∧ n ≤ c ∧ c ≤ maxLen ∧ RH w w.heap.size A n hs := by
  obtain ⟨A, c, e, h1, h2, h3⟩ := own_rdN h
  exact ⟨A, c, e, h1, h2, hl, hi, h3⟩
theorem root_is (hs : List (List Nat)) (hi : ∀ x ∈ hs, IsH x) : IsH (root hs) := by
  unfold root
  split
  · exact HZ_is
  · rename_i h
    have key : ∀ f (hs : List (List Nat)), 0 < hs.length → (∀ x ∈ hs, IsH x) → IsH (rootF f hs) := by
      intro f
      induction f with
      | zero => intro hs h0 hi; simp only [rootF, List.getD_eq_getElem?_getD, List.getElem?_eq_getElem h0]; exact hi _ (List.getElem_mem h0)
      | succ f ih =>
        intro hs h0 hi
        rw [rootF]
        split
        · simp only [List.getD_eq_getElem?_getD, List.getElem?_eq_getElem h0]; exact hi _ (List.getElem_mem h0)
        · exact ih _ (by rw [abv_len]; omega) (abv_is hs)
    exact key _ _ (by omega) hi

set_option maxHeartbeats 2000000 in
set_option maxRecDepth 100000 in
theorem root_any (A : Option Addr) (n c : Nat) (hs : List (List Nat)) (w : World) (hr : RH w w.heap.size A n hs) (hn : (n : Int) ≤ 100000) (ht : TabAt w) :
    Calls Tryd.prog 16 #[.slice A n c] w fun e w' => e = .returned (.agg (bys (root hs)).toArray) ∧ Below w.heap.size w w' := by
  have HT := Lib.hid ht
  have HL := Lib.hid hr.len
  have HI := Lib.hid hr.is_
  obtain ⟨R, HR⟩ : ∃ R, Hid (R = root hs) := ⟨_, Lib.hid rfl⟩
  rw [← HR.out]
  have HRI : Hid (IsH R) := Lib.hid (by rw [HR.out]; exact root_is hs HI.out)
  have hb0 : Below w.heap.size w (w.alloc (.cells ZH 23)) := (Below.refl _ _).alloc (Nat.le_refl _) _
  have bk0 : Blk (w.alloc (.cells ZH 23)) w.heap.size 23 ZH := Blk.new _ _ _
  clear ht
  by_cases h0 : n = 0
  · subst h0
    have hRZ : R = HZ := by rw [HR.out, root, if_pos HL.out]
    have HTN := Lib.hid (there_new w ZH 23 ZH.size rfl)
    have HZ1 := Lib.hid (show (Tryd.prog.info? 23).map (·.size) = some ZH.size by rw [ZH_size]; exact Tryd.size23)
    have HZ2 := Lib.hid (show ZH.all (·.oneCell') = true by decide +kernel)
    have HZ3 := Lib.hid (show (Tryd.prog.info? 23).map (·.size) = some ZH.toList.length by rw [Array.length_toList, ZH_size]; exact Tryd.size23)
    go_enter Tryd.func16, Tryd.ntmps16
    go_wp2_with (first
      | (refine wpList_of_wp rfl fun K hK => wp_alloc_arr 23 rfl ZH Tryd.zero23 (hK _ _ ?_))
      | (refine wpList_of_wp rfl fun K hK => wp_build_arr 23 _ rfl 32 5 ZH ZH Tryd.underlying23 Tryd.zero23 Tryd.size5 (by simp [Instr.fill]) (hK _ _ ?_))
      | (refine wpList_store_mid rfl 23 (.tmp 2) (.tmp 7) rfl w.heap.size 0 ZH rfl rfl HTN.out HZ1.out HZ2.out ?_))
    exact bodyPost_ret (results_arr rfl _ _ w.heap.size ZH.toList _ rfl (World.rangeAt_setCells_same _ _ _ _ (by simpa using HTN.out)) Tryd.underlying23 rfl HZ3.out) rfl ⟨by rw [hRZ]; rfl, Below.setCells' hb0 _ _ (Nat.le_refl _) _⟩
  · have hnz : ((n : Int) == 0) = false := by simp; omega
    have hnz' : ¬ (n : Int) = 0 := by omega
    have hr0 := (hr.below hb0).up (show w.heap.size ≤ (w.alloc (.cells ZH 23)).heap.size by simp)
    go_enter Tryd.func16, Tryd.ntmps16
    go_wp2_with (first | (refine wpList_of_wp rfl fun K hK => wp_alloc_arr 23 rfl ZH Tryd.zero23 (hK _ _ ?_)))
    generalize w.alloc (.cells ZH 23) = w0 at *
    go_loopg [3] n (fun kk row wr => ∃ k A' c' hs', kk = k ∧ row = .slice A' k c' ∧ 0 < k ∧ k ≤ n ∧ RH wr wr.heap.size A' k hs' ∧ Hid (root hs' = R) ∧ Blk wr w.heap.size 23 ZH ∧ Below w.heap.size w wr)
    case atStart => exact ⟨n, A, c, hs, rfl, rfl, by omega, Nat.le_refl _, hr0, Lib.hid HR.out.symm, bk0, hb0⟩
    case round =>
      obtain ⟨k, A', c', hs', hkk, rfl, hk0, hkn, hr1, HR1, bk1, hb1⟩ := hrel
      have HKK := Lib.hid hkk
      clear hkk
      clear hr0 bk0 hb0
      have hs1 := hb1.size
      by_cases h1 : 1 < k
      · have h1' : (1 : Int) < (k : Int) := by omega
        have HAB := Lib.hid (above_any A' k c' hs' wr hr1 hk0 (by omega) (HT.out.below hb1 HT.out.1))
        go_wp2_with fail
        refine HAB.out.mono ?_
        rintro e w2 ⟨v2, rfl, ho2, hb2⟩
        have hB2 := hb1.trans (hb2.mono hs1)
        have bk2 := bk1.below hb2 bk1.lt
        obtain ⟨A2, c2, rfl, _, _, hr2⟩ := own_RH ho2 (by rw [abv_len, hr1.len]) (abv_is hs')
        have HR2 := Lib.hid hr2
        have HRU : Hid (root (abv hs') = R) := Lib.hid (by rw [← root_up hs' (by rw [hr1.len]; exact h1)]; exact HR1.out)
        clear hr2 hr1 bk1 hb1 hb2 ho2 HAB
        go_wp2_with fail
        go_roundg ((k + 1) / 2)
        case measure => have := HKK.out; omega
        case rel => exact ⟨(k + 1) / 2, A2, c2, abv hs', rfl, rfl, by omega, by omega, HR2.out, HRU, bk2, hB2⟩
      · obtain rfl : k = 1 := by omega
        have hdec : decide ((1 : Int) < ((1 : Nat) : Int)) = false := by decide
        obtain ⟨g, off, rfl, hg, hx⟩ := hr1.elem 0 (by omega)
        have hRx : hs'.getD 0 [] = R := by rw [← HR1.out, root_one hs' hr1.len]
        rw [hRx, Nat.zero_mul, Nat.add_zero] at hx
        have HX := Lib.hid hx
        have HSZ := Lib.hid (sizeH R HRI.out)
        have hsz : (bys R).toArray.size = 32 := by simp [bys_len, HRI.out.1]
        have HTH := Lib.hid (show wr.there w.heap.size 0 (bys R).toArray.size by rw [hsz]; exact bk1.there)
        clear hx hr1 hRx hsz
        go_wp2_with (first
          | (refine wpList_load_mid rfl 23 (.tmp 15) rfl g off rfl (bys R) _ HX.out Tryd.underlying23 rfl HSZ.out ?_)
          | (refine wpList_store_mid rfl 23 (.tmp 2) (.tmp 16) rfl w.heap.size 0 (bys R).toArray rfl rfl HTH.out (by simpa using HSZ.out) (all_oneCell_toArray (bys_one _)) ?_))
        exact bodyPost_ret (results_arr rfl _ _ w.heap.size (bys R) _ rfl (World.rangeAt_setCells_same _ _ _ _ (by simpa using HTH.out)) Tryd.underlying23 rfl HSZ.out) rfl ⟨rfl, Below.setCells' hb1 _ _ (Nat.le_refl _) _⟩
end Go.Proofs.YtkokbpifjpmhlaaDoor
