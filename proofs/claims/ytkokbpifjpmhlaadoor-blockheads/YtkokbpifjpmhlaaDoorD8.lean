/- Walks: Sum, Double, Pair; the law's head. -/
import Derived.Test.YtkokbpifjpmhlaaDoorD7
namespace Go.Proofs.YtkokbpifjpmhlaaDoor
set_option linter.unusedSimpArgs false
set_option linter.unusedVariables false
open Go.RowKit

def dgK (K S : List Int) (bs : List Nat) : List Nat := hsh (fld K (fld K S bs (bs.length / 64)) (lst bs) ((lst bs).length / 64))
def dg (bs : List Nat) : List Nat := dgK K0 S0 bs
theorem S0_w : ∀ x ∈ S0, W32 x := by unfold W32; decide
theorem dg_lt (bs : List Nat) : ∀ c ∈ dg bs, c < 256 := hsh_lt _
theorem dg_len (bs : List Nat) : (dg bs).length = 32 := hsh_len _

set_option maxHeartbeats 1000000 in
set_option maxRecDepth 100000 in
theorem sum_any (A : Option Addr) (n c : Nat) (bs : List Nat) (w : World) (hr : Rd w w.heap.size A n (bys bs)) (hb : ∀ c ∈ bs, c < 256) (hn : (n : Int) ≤ 1000000000) (hc : n ≤ c) (hcm : c ≤ maxLen) (ht : TabAt w) :
    Calls Tryd.prog 19 #[.slice A n c] w fun e w' => e = .returned (.agg (bys (dg bs)).toArray) ∧ Below w.heap.size w w' := by
  have hcm' : (c : Int) ≤ 9223372036854775807 := by unfold maxLen at hcm; omega
  have hlen : bs.length = n := by have := hr.1; rwa [bys_len] at this
  have HDG := Lib.hid (show dg bs = hsh (fld K0 (fld K0 S0 bs (n / 64)) (lst bs) ((lst bs).length / 64)) by unfold dg dgK; rw [hlen])
  have HLL := Lib.hid (lst_len bs)
  have HLEN := Lib.hid hlen
  have HB := Lib.hid hb
  have HT := Lib.hid ht
  have hb0 : Below w.heap.size w (w.alloc (.cells ZH 23)) := (Below.refl _ _).alloc (Nat.le_refl _) _
  have bk0 : Blk (w.alloc (.cells ZH 23)) w.heap.size 23 ZH := Blk.new _ _ _
  clear hlen hb ht
  go_enter Tryd.func19, Tryd.ntmps19
  go_wp2_with (first | (refine wpList_of_wp rfl fun K hK => wp_alloc_arr 23 rfl ZH Tryd.zero23 (hK _ _ ?_)))
  refine (start_any _).mono ?_
  rintro e w1 ⟨rfl, hb1⟩
  have h1s := hb1.size
  simp only [World.size_alloc] at h1s
  have hB1 := hb0.trans (hb1.mono (by simp))
  have bk1 := bk0.below hb1 (by simp)
  clear hb1 hb0 bk0
  go_wp2_with fail
  refine (fold_any A n c bs S0 _ ((hr.below hB1).up hB1.size) HB.out hn hc hcm' rfl S0_w (HT.out.below hB1 HT.out.1)).mono ?_
  rintro e w2 ⟨rfl, hb2⟩
  have h2s := hb2.size
  have hB2 := hB1.trans (hb2.mono (by omega))
  have bk2 := bk1.below hb2 (by omega)
  have hl2 := fld_len K0 S0 bs rfl (n / 64)
  have hw2 := fld_w K0 S0 bs S0_w (n / 64)
  have HDG2 := HDG.out
  generalize fld K0 S0 bs (n / 64) = S2 at *
  have HDG3 := Lib.hid HDG2
  have HL2 := Lib.hid hl2
  have HW2 := Lib.hid hw2
  clear hb2 hB1 bk1 HDG2 hl2 hw2
  go_wp2_with fail
  refine (last_any A n c bs _ ((hr.below hB2).up hB2.size) hn hc).mono ?_
  rintro e w3 ⟨A3, n3, c3, rfl, e3, hc3, hm3, hr3, hb3⟩
  have h3s := hb3.size
  have hB3 := hB2.trans (hb3.mono (by omega))
  have bk3 := bk2.below hb3 (by omega)
  have hn3 : (n3 : Int) ≤ 1000000000 := by
    have h5 := HLL.out
    have h6 := zc_lt bs.length
    omega
  have HE3 := Lib.hid e3
  clear hb3 hB2 bk2 e3
  have hm3' : (c3 : Int) ≤ 9223372036854775807 := by unfold maxLen at hm3; omega
  go_wp2_with fail
  refine (fold_any A3 n3 c3 (lst bs) S2 _ hr3 (lst_lt bs HB.out) hn3 hc3 hm3' HL2.out HW2.out (HT.out.below hB3 HT.out.1)).mono ?_
  rintro e w4 ⟨rfl, hb4⟩
  have h4s := hb4.size
  have hB4 := hB3.trans (hb4.mono (by omega))
  have bk4 := bk3.below hb4 (by omega)
  have hl4 := fld_len K0 S2 (lst bs) HL2.out (n3 / 64)
  have hw4 := fld_w K0 S2 (lst bs) HW2.out (n3 / 64)
  have HDG4 := HDG3.out
  rw [← HE3.out] at HDG4
  generalize fld K0 S2 (lst bs) (n3 / 64) = S4 at *
  have HDG5 := Lib.hid HDG4
  clear hb4 hB3 bk3 HDG4 hr3
  have HL4 := Lib.hid hl4
  have HW4 := Lib.hid hw4
  clear hl4 hw4
  go_wp2_with fail
  refine (hash_any S4 HL4.out HW4.out _).mono ?_
  rintro e w5 ⟨rfl, hb5⟩
  have h5s := hb5.size
  have hB5 := hB4.trans (hb5.mono (by omega))
  have bk5 := bk4.below hb5 (by omega)
  have hl5 := hsh_len S4
  have hfin := HDG5.out
  generalize hsh S4 = D at *
  have HFIN := Lib.hid hfin
  have hsz : (bys D).length = 32 := by rw [bys_len]; exact hl5
  have HSZ := Lib.hid hsz
  have HTH := Lib.hid (show w5.there w.heap.size 0 (bys D).toArray.size by
    have := bk5.there
    rw [show (bys D).toArray.size = 32 from hsz]; exact this)
  clear hsz hl5 hfin hb5 hB4 bk4
  go_wp2_with (refine wpList_store_mid rfl 23 (.tmp 2) (.tmp 9) rfl w.heap.size 0 (bys D).toArray rfl rfl HTH.out (by rw [show (bys D).toArray.size = 32 from HSZ.out]; exact Tryd.size23) (all_oneCell_toArray (bys_one _)) ?_)
  exact bodyPost_ret (results_arr rfl _ _ w.heap.size (bys D) _ rfl (World.rangeAt_setCells_same _ _ _ _ (by simpa using HTH.out)) Tryd.underlying23 rfl (by rw [HSZ.out]; exact Tryd.size23)) rfl ⟨by rw [HFIN.out], Below.setCells' hB5 _ _ (Nat.le_refl _) _⟩
end Go.Proofs.YtkokbpifjpmhlaaDoor
