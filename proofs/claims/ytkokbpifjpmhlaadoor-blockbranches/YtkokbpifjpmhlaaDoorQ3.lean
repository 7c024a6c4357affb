/- The reference: all rows; the root. The law's own: digests as the reference has them. -/
import Derived.Test.YtkokbpifjpmhlaaDoorQ2
import Derived.Test.YtkokbpifjpmhlaaDoorArm
namespace Go.Proofs.YtkokbpifjpmhlaaDoor
set_option linter.unusedSimpArgs false
set_option linter.unusedVariables false
open Go.RowKit

/-- The k-th row. -/
def rowK (hs : List (List Nat)) : Nat → List (List Nat)
  | 0 => hs
  | k + 1 => abv (rowK hs k)
theorem rowK_is (hs : List (List Nat)) (hi : ∀ x ∈ hs, IsH x) : ∀ k, ∀ x ∈ rowK hs k, IsH x
  | 0 => hi
  | k + 1 => abv_is _
theorem root_rowK (hs : List (List Nat)) : ∀ k, (∀ i, i < k → 1 < (rowK hs i).length) → root hs = root (rowK hs k)
  | 0, _ => rfl
  | k + 1, h => by rw [root_rowK hs k (fun i hi => h i (by omega)), root_up _ (h k (by omega))]; rfl

set_option maxHeartbeats 400000 in
set_option maxRecDepth 100000 in
theorem raw_any (A : Option Addr) (n c : Nat) (hs : List (List Nat)) (w : World) (hr : RH w w.heap.size A n hs) (hn : (n : Int) ≤ 100000) :
    Calls Tryd.prog 14 #[.slice A n c] w fun e w' => ∃ v', e = .returned v' ∧ w'.ownsRow w.heap.size 22 32 v' n (flatH hs) ∧ Below w.heap.size w w' := by
  have HL := Lib.hid hr.len
  have HI := Lib.hid hr.is_
  have HFN : Hid (hs.take n = hs) := Lib.hid (List.take_of_length_le (by rw [hr.len]; exact Nat.le_refl _))
  rw [← HFN.out]
  have hB0 : Below w.heap.size w (w.alloc (.cells #[] 22)) := (Below.refl _ _).alloc (Nat.le_refl _) _
  have ho0 : (w.alloc (.cells #[] 22)).ownsRow w.heap.size 22 32 (.slice (some ⟨w.heap.size, 0, none⟩) 0 0) 0 (flatH (hs.take 0)) := World.ownsRow_lit (base := w.heap.size) (e := 22) (size := 32) w #[] 0 (Nat.le_refl _) (by unfold maxLen; omega) rfl
  go_enter Tryd.func14, Tryd.ntmps14
  go_wp2_with fail
  generalize w.alloc (.cells #[] 22) = w0 at *
  go_loopg [3, 9] n (fun k out i wr => ∃ j : Nat, k = n - j ∧ j ≤ n ∧ i = .int .i64 (j : Int) ∧ wr.ownsRow w.heap.size 22 32 out j (flatH (hs.take j)) ∧ Below w.heap.size w wr)
  case atStart => exact ⟨0, rfl, Nat.zero_le _, rfl, ho0, hB0⟩
  case round =>
    obtain ⟨j, hk, hj, rfl, ho, hb⟩ := hrel
    have HK := Lib.hid hk
    clear hk ho0 hB0
    have hs1 := hb.size
    by_cases hlt : j < n
    · have hlt' : (j : Int) < (n : Int) := by omega
      obtain ⟨g, off, rfl, hg, hx1⟩ := hr.elem j hlt
      have HY := Lib.hid (hr.isAt j hlt)
      have HX1 := Lib.hid (rangeAt_below hx1 hb hg)
      have HTK : Hid (hs.take (j + 1) = hs.take j ++ [hs.getD j []]) := Lib.hid (by
        have hjl : j < hs.length := by rw [HL.out]; exact hlt
        rw [List.take_succ_eq_append_getElem hjl, List.getD_eq_getElem?_getD, List.getElem?_eq_getElem hjl]; rfl)
      generalize hs.getD j [] = Y at *
      have HSY := Lib.hid (sizeH Y HY.out)
      have hyl : (bys Y).length = 32 := by rw [bys_len, HY.out.1]
      have HTN := Lib.hid (there_new wr ZH 23 (bys Y).toArray.size (by rw [ZH_size]; simp [hyl]))
      have hb1 : Below wr.heap.size wr ((wr.alloc (.cells ZH 23)).setCells wr.heap.size 0 (bys Y)) := Below.setCells' ((Below.refl _ _).alloc (Nat.le_refl _) _) _ _ (Nat.le_refl _) _
      have bkY : Blk ((wr.alloc (.cells ZH 23)).setCells wr.heap.size 0 (bys Y)) wr.heap.size 23 (bys Y).toArray := (Blk.new wr 23 ZH).stored (bys Y) (by rw [ZH_size, hyl])
      have ho1 := ownN_below ho hb1 (fun k hk => (ho.lt k hk).2)
      have hB1 := hb.trans (hb1.mono hs1)
      clear hx1 hb1 ho hyl hb
      go_upto_region 5 with (first
        | (refine wpList_load_mid rfl 23 (.tmp 11) rfl g (off + j * 32) rfl (bys Y) _ HX1.out Tryd.underlying23 rfl HSY.out ?_)
        | (refine wpList_of_wp rfl fun K hK => wp_alloc_arr 23 rfl ZH Tryd.zero23 (hK _ _ ?_))
        | (refine wpList_store_mid rfl 23 (.tmp 5) (.tmp 12) rfl wr.heap.size 0 (bys Y).toArray rfl rfl HTN.out (by simpa using HSY.out) (all_oneCell_toArray (bys_one _)) ?_))
      change Code.wp _ _ _ _ ((wr.alloc (.cells ZH 23)).setCells wr.heap.size 0 (bys Y))
      generalize (wr.alloc (.cells ZH 23)).setCells wr.heap.size 0 (bys Y) = w1 at *
      have HRY := Lib.hid bkY.range
      obtain ⟨v3, w3, hrun, ho3, hg3, _⟩ := app_b32 w1 w.heap.size u3 j (hs.take j) ho1 Y HY.out (by omega) hB1.size
      have hB3 : Below w.heap.size w w3 := hB1.grown hg3 hB1.size (fun k hk => (ho1.lt k hk).1)
      rw [← HTK.out] at ho3
      have HO3 := Lib.hid ho3
      have HRUN := Lib.hid hrun
      clear ho3 hg3 ho1 bkY HTN hrun
      go_wp2_with (first
        | (refine wpList_load_mid rfl 23 (.tmp 5) rfl wr.heap.size 0 rfl (bys Y) _ HRY.out Tryd.underlying23 rfl HSY.out ?_)
        | (refine arm_build1 42 (.tmp 14) (v' := ?_) (w' := ?_) ?hr ?_; case hr => exact lit_b32 w1 Y HY.out #[(0, .agg (bys Y).toArray)] rfl)
        | (refine arm_append 42 (.tmp 13) (.tmp 15) (v' := ?_) (w' := ?_) ?hr2 ?_; case hr2 => exact HRUN.out))
      go_roundg (n - (j + 1))
      case measure => have := HK.out; omega
      case rel => exact ⟨j + 1, rfl, by omega, by go_num, HO3.out, hB3⟩
    · have hdec : decide ((j : Int) < (n : Int)) = false := by simp; omega
      have hnj : ¬ j < n := hlt
      obtain rfl : j = n := by omega
      go_wp2_with fail
      go_ret
      exact ⟨_, rfl, ho, hb⟩
end Go.Proofs.YtkokbpifjpmhlaaDoor
