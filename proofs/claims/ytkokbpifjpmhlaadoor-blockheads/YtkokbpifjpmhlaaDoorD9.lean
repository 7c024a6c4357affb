/- Walks: Double, Pair; the law's head. -/
import Derived.Test.YtkokbpifjpmhlaaDoorD8
namespace Go.Proofs.YtkokbpifjpmhlaaDoor
set_option linter.unusedSimpArgs false
set_option linter.unusedVariables false
open Go.RowKit

theorem Blk.rd {w : World} {g : Nat} {t : TypeId} {l : List Value} (h : Blk w g t l.toArray) (n : Nat) (hn : l.length = n) : Rd w w.heap.size (some ⟨g, 0, none⟩) n l :=
  ⟨hn, fun _ => ⟨g, 0, rfl, h.lt, fun j u hu => by rw [Nat.zero_add]; exact h.cell j u hu⟩⟩

set_option maxHeartbeats 1000000 in
set_option maxRecDepth 100000 in
theorem double_any (A : Option Addr) (n c : Nat) (bs : List Nat) (w : World) (hr : Rd w w.heap.size A n (bys bs)) (hb : ∀ c ∈ bs, c < 256) (hn : (n : Int) ≤ 1000000000) (hc : n ≤ c) (hcm : c ≤ maxLen) (ht : TabAt w) :
    Calls Tryd.prog 9 #[.slice A n c] w fun e w' => e = .returned (.agg (bys (dg (dg bs))).toArray) ∧ Below w.heap.size w w' := by
  have HB := Lib.hid hb
  have HT := Lib.hid ht
  have hb0 : Below w.heap.size w (w.alloc (.cells ZH 23)) := (Below.refl _ _).alloc (Nat.le_refl _) _
  have bk0 : Blk (w.alloc (.cells ZH 23)) w.heap.size 23 ZH := Blk.new _ _ _
  clear hb ht
  go_enter Tryd.func9, Tryd.ntmps9
  go_wp2_with (first | (refine wpList_of_wp rfl fun K hK => wp_alloc_arr 23 rfl ZH Tryd.zero23 (hK _ _ ?_)))
  refine (sum_any A n c bs _ ((hr.below hb0).up (by simp)) HB.out hn hc hcm (HT.out.below hb0 HT.out.1)).mono ?_
  rintro e w1 ⟨rfl, hb1⟩
  have h1s := hb1.size
  simp only [World.size_alloc] at h1s
  have hB1 := hb0.trans (hb1.mono (by simp))
  have bk1 := bk0.below hb1 (by simp)
  clear hb1 hb0 bk0
  have hdl := dg_lt bs
  have hdn := dg_len bs
  obtain ⟨D, eD⟩ : ∃ D, dg bs = D := ⟨_, rfl⟩
  rw [eD] at hdl hdn ⊢
  have HD := Lib.hid eD
  clear eD
  have HDL := Lib.hid hdl
  have hsz : (bys D).length = 32 := by rw [bys_len]; exact hdn
  have HSZ := Lib.hid hsz
  have HTN := Lib.hid (there_new w1 ZH 23 (bys D).toArray.size (by rw [ZH_size]; exact hsz.symm))
  have bk2 : Blk ((w1.alloc (.cells ZH 23)).setCells w1.heap.size 0 (bys D)) w1.heap.size 23 (bys D).toArray := (Blk.new w1 23 ZH).stored (bys D) (by rw [ZH_size]; exact hsz)
  have bk3 : Blk ((w1.alloc (.cells ZH 23)).setCells w1.heap.size 0 (bys D)) w.heap.size 23 ZH := (bk1.alloc _).setCells _ _ _ (by omega)
  have hB2 : Below w.heap.size w ((w1.alloc (.cells ZH 23)).setCells w1.heap.size 0 (bys D)) := Below.setCells' (hB1.alloc (by omega) _) _ _ (by omega) _
  clear hdl hdn hsz bk1 hB1
  go_wp2_with (first
    | (refine wpList_of_wp rfl fun K hK => wp_alloc_arr 23 rfl ZH Tryd.zero23 (hK _ _ ?_))
    | (refine wpList_store_mid rfl 23 (.tmp 3) (.tmp 5) rfl w1.heap.size 0 (bys D).toArray rfl rfl HTN.out (by rw [show (bys D).toArray.size = 32 from HSZ.out]; exact Tryd.size23) (all_oneCell_toArray (bys_one _)) ?_))
  change Calls _ _ _ ((w1.alloc (.cells ZH 23)).setCells w1.heap.size 0 (bys D)) _
  generalize (w1.alloc (.cells ZH 23)).setCells w1.heap.size 0 (bys D) = W2 at *
  refine (sum_any _ 32 32 D _ (bk2.rd 32 HSZ.out) HDL.out (by omega) (by omega) (by unfold maxLen; omega) (HT.out.below hB2 HT.out.1)).mono ?_
  rintro e w5 ⟨rfl, hb5⟩
  have h5s := hb5.size
  have h6s := hB2.size
  have hB5 := hB2.trans (hb5.mono (by omega))
  have bk5 := bk3.below hb5 (by have := bk3.lt; omega)
  have hdn := dg_len D
  obtain ⟨D2, eD⟩ : ∃ D2, dg D = D2 := ⟨_, rfl⟩
  rw [eD] at hdn ⊢
  have HD2 := Lib.hid eD
  clear eD
  have hsz : (bys D2).length = 32 := by rw [bys_len]; exact hdn
  have HSZ2 := Lib.hid hsz
  have HTH := Lib.hid (show w5.there w.heap.size 0 (bys D2).toArray.size by
    have := bk5.there
    rw [show (bys D2).toArray.size = 32 from hsz]; exact this)
  clear hsz hdn hb5 hB2 bk3 bk2
  go_wp2_with (refine wpList_store_mid rfl 23 (.tmp 2) (.tmp 7) rfl w.heap.size 0 (bys D2).toArray rfl rfl HTH.out (by rw [show (bys D2).toArray.size = 32 from HSZ2.out]; exact Tryd.size23) (all_oneCell_toArray (bys_one _)) ?_)
  exact bodyPost_ret (results_arr rfl _ _ w.heap.size (bys D2) _ rfl (World.rangeAt_setCells_same _ _ _ _ (by simpa using HTH.out)) Tryd.underlying23 rfl (by rw [HSZ2.out]; exact Tryd.size23)) rfl ⟨by rw [HD.out, HD2.out], Below.setCells' hB5 _ _ (Nat.le_refl _) _⟩

set_option maxHeartbeats 1000000 in
set_option maxRecDepth 100000 in
theorem pair_any (xs ys : List Nat) (hx : xs.length = 32) (hy : ys.length = 32) (hbx : ∀ c ∈ xs, c < 256) (hby : ∀ c ∈ ys, c < 256) (w : World) (ht : TabAt w) :
    Calls Tryd.prog 17 #[.agg (bys xs).toArray, .agg (bys ys).toArray] w fun e w' => e = .returned (.agg (bys (dg (dg (xs ++ ys)))).toArray) ∧ Below w.heap.size w w' := by
  obtain ⟨i0, hi5, hz0, hz1, hz2⟩ := info_parts Tryd.info5
  obtain ⟨MC, hMC, hmk⟩ := make128 hi5 hz0 hz1 hz2 64 (by omega) 64 rfl
  have HMC := Lib.hid hMC
  have HT := Lib.hid ht
  have HX := Lib.hid hbx
  have HY := Lib.hid hby
  have lx : (bys xs).length = 32 := by rw [bys_len, hx]
  have ly : (bys ys).length = 32 := by rw [bys_len, hy]
  obtain ⟨W3, e3⟩ : ∃ W3, W3 = ((w.alloc (.cells (bys xs).toArray 23)).alloc (.cells (bys ys).toArray 23)).alloc (.cells ZH 23) := ⟨_, rfl⟩
  have hB3 : Below w.heap.size w W3 := by rw [e3]; exact (((Below.refl _ _).alloc (Nat.le_refl _) _).alloc (by simp) _).alloc (by simp; omega) _
  have s3 : W3.heap.size = w.heap.size + 1 + 1 + 1 := by rw [e3]; simp
  have k0 : Blk W3 w.heap.size 23 (bys xs).toArray := by rw [e3]; exact Blk.alloc (heap_alloc2_old w _ _) _
  have k1 : Blk W3 (w.heap.size + 1) 23 (bys ys).toArray := by rw [e3]; exact Blk.alloc (heap_alloc2_new w _ _) _
  have k2 : Blk W3 (w.heap.size + 1 + 1) 23 ZH := by
    rw [e3]
    have := Blk.new ((w.alloc (.cells (bys xs).toArray 23)).alloc (.cells (bys ys).toArray 23)) 23 ZH
    simpa using this
  have hb4 : Below W3.heap.size W3 (W3.alloc (.cells MC 5)) := (Below.refl _ _).alloc (Nat.le_refl _) _
  have hown : Buf (W3.alloc (.cells MC 5)) W3.heap.size (.slice (some ⟨W3.heap.size, 0, none⟩) 0 64) 0 [] :=
    Buf.of_own (World.ownsRow_made W3 (base := W3.heap.size) (e := 5) (size := 1) MC 64 (Nat.le_refl _) (by unfold maxLen; omega) (by rw [HMC.out]))
  have r0 := (k0.rd 32 lx).below hb4
  have r1 := (k1.rd 32 ly).below hb4
  rw [s3] at hown
  have HE3 := Lib.hid e3
  clear hMC hbx hby ht lx ly e3
  go_enter Tryd.func17, Tryd.ntmps17
  go_wp2_with (first
    | (refine wpList_of_wp rfl fun K hK => wp_alloc_arr 23 rfl ZH Tryd.zero23 (hK _ _ ?_); (try simp only [World.size_alloc]))
    | (at_builtin; rw [← HE3.out]; refine wpList_append_buf _ rfl (.tmp 7) (.tmp 8) 27 rfl (w.heap.size + 1 + 1 + 1) 5 i0 (.int .u8 0) 1 Tryd.underlying27 hi5 hz0 hz1 hz2 rfl rfl hown rfl r0 (bys_one _) ?b1 ?b2 ?b0 ?next))
  case b1 => unfold maxLen; omega
  case b2 => omega
  case b0 => simp [s3]
  case next =>
    intro v1 w1 p1 p2 p3
    have hl1 : Laid (W3.alloc (.cells MC 5)) (w.heap.size + 1 + 1 + 1) _ w1 v1 32 (bys xs) := ⟨by simpa using p1, p2, by simpa [s3] using p3⟩
    have hb1 : Below (w.heap.size + 1 + 1 + 1) (W3.alloc (.cells MC 5)) w1 := hl1.below hown (by simp [s3])
    have r2 := r1.keep (w' := w1) (fun p hp => hb1.cell (by omega))
    have s1 := hb1.size
    have bf1 := hl1.buf
    simp only [World.size_alloc] at s1
    clear p1 p2 p3 hmk r0 r1 hl1
    go_wp2_with (at_builtin; refine wpList_append_buf _ rfl (.tmp 10) (.tmp 11) 27 rfl (w.heap.size + 1 + 1 + 1) 5 i0 (.int .u8 0) 1 Tryd.underlying27 hi5 hz0 hz1 hz2 rfl rfl bf1 rfl r2 (bys_one _) ?b3 ?b4 ?b5 ?next2)
    case b3 => unfold maxLen; omega
    case b4 => omega
    case b5 => omega
    case next2 =>
      intro v2 w2 p1 p2 p3
      have hl2 : Laid w1 (w.heap.size + 1 + 1 + 1) _ w2 v2 (32 + 32) (bys xs ++ bys ys) := ⟨p1, p2, p3⟩
      have hb2 := hb1.trans (hl2.below bf1 (by omega))
      have hB2 : Below w.heap.size w w2 := hB3.trans (((Below.refl w.heap.size W3).alloc (by omega) _).trans (hb2.mono (by omega)))
      have k2' : Blk w2 (w.heap.size + 1 + 1) 23 ZH := (k2.alloc _).below hb2 (by omega)
      have bf2 := hl2.buf
      rw [← bys_app] at bf2
      obtain ⟨A, c, rfl, hc, hrd⟩ := bf2.slice
      have hcm := bf2.cap_le
      clear p1 p2 p3 hb1 r2 bf1 hl2 k0 k1 k2 hb4 hown hb2
      go_wp2_with fail
      refine (double_any A (32 + 32) c (xs ++ ys) _ hrd (fun x hx => (List.mem_append.1 hx).elim (HX.out x) (HY.out x)) (by omega) hc hcm (HT.out.below hB2 HT.out.1)).mono ?_
      rintro e w5 ⟨rfl, hb5⟩
      have h6s := hB2.size
      have hB5 := hB2.trans (hb5.mono (by omega))
      have bk5 := k2'.below hb5 (by have := k2'.lt; omega)
      have hdn := dg_len (dg (xs ++ ys))
      obtain ⟨D2, eD⟩ : ∃ D2, dg (dg (xs ++ ys)) = D2 := ⟨_, rfl⟩
      rw [eD] at hdn ⊢
      have HD2 := Lib.hid eD
      clear eD
      have hsz : (bys D2).length = 32 := by rw [bys_len]; exact hdn
      have HSZ2 := Lib.hid hsz
      have HTH := Lib.hid (show w5.there (w.heap.size + 1 + 1) 0 (bys D2).toArray.size by
        have := bk5.there
        rw [show (bys D2).toArray.size = 32 from hsz]; exact this)
      clear hsz hdn hb5 hB2 k2' hrd bf2
      go_wp2_with (refine wpList_store_mid rfl 23 (.tmp 4) (.tmp 14) rfl (w.heap.size + 1 + 1) 0 (bys D2).toArray rfl rfl HTH.out (by rw [show (bys D2).toArray.size = 32 from HSZ2.out]; exact Tryd.size23) (all_oneCell_toArray (bys_one _)) ?_)
      exact bodyPost_ret (results_arr rfl _ _ (w.heap.size + 1 + 1) (bys D2) _ rfl (World.rangeAt_setCells_same _ _ _ _ (by simpa using HTH.out)) Tryd.underlying23 rfl (by rw [HSZ2.out]; exact Tryd.size23)) rfl ⟨by rw [HD2.out], Below.setCells' hB5 _ _ (by omega) _⟩
end Go.Proofs.YtkokbpifjpmhlaaDoor
