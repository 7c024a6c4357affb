/- The walk of BloomKeeps. -/
import Derived.Test.YtajgmadohhagkaaDoorC5
namespace Go.Proofs.YtajgmadohhagkaaDoor
set_option linter.unusedSimpArgs false
set_option linter.unusedVariables false
open Go.RowKit

theorem Tryd.info9 : (Tryd.prog.info? 9).map (fun i => (i.zero, i.size, i.bytes)) = some (some (.string ⟨#[]⟩), 1, 16) := by kernel_rfl
theorem strs_one (L : List (List Nat)) : ∀ u ∈ strs L, u.oneCell' = true := by
  intro u hu
  simp only [strs, List.mem_map] at hu
  obtain ⟨c, _, rfl⟩ := hu
  rfl
theorem rev_drop {α : Type} (L : List α) (q : Nat) (s : α) (h : L[q]? = some s) : (L.drop q).reverse = (L.drop (q + 1)).reverse ++ [s] := by
  obtain ⟨hq, rfl⟩ := List.getElem?_eq_some_iff.1 h
  rw [List.drop_eq_getElem_cons hq, List.reverse_cons]

set_option maxHeartbeats 2000000 in
set_option maxRecDepth 100000 in
theorem keeps_walk (A : Option Addr) (c : Nat) (L : List (List Nat)) (w : World) (hr : Rd w w.heap.size A L.length (strs L)) (hf : ∀ s ∈ L, (∀ x ∈ s, x < 256) ∧ s.length ≤ maxLen) (hlen : L.length ≤ maxLen) (ht : TabAt w) :
    Calls Tryd.prog 5 #[.slice A L.length c] w fun e w' => e = .returned (.bool true) ∧ Below w.heap.size w w' := by
  obtain ⟨i9, hi, hz0, hz1, hz2⟩ := info_parts Tryd.info9
  have HBIG := Lib.hid (fun W (hb : Below w.heap.size w W) => big_any A c L W ((hr.below hb).up hb.size) hf hlen)
  have HT := Lib.hid ht
  have HR := Lib.hid hr
  have HS := Lib.hid hf
  have hlen' : (L.length : Int) ≤ 9223372036854775807 := by unfold maxLen at hlen; omega
  obtain ⟨bg, hbg⟩ : ∃ bg, bg = bigS L := ⟨_, rfl⟩
  rw [← hbg] at HBIG
  have HBG := Lib.hid hbg
  clear hr hf hlen ht hbg
  obtain ⟨N, hN⟩ : ∃ N, N = L.length := ⟨_, rfl⟩
  rw [← hN] at HBIG hlen' ⊢
  have HN := Lib.hid hN
  clear hN
  go_enter Tryd.func5, Tryd.ntmps5
  go_upto_region 3 with (go_at_call 8; refine (head_any _ HT.out).mono ?_; rintro e w1 ⟨rfl, hb1⟩)
  have HB1 := Lib.hid hb1
  have s1 := hb1.size
  clear hb1
  go_wp2_with fail
  refine (HBIG.out _ HB1.out).mono ?_
  rintro e w2 ⟨rfl, rfl⟩
  clear HBIG
  cases bg with
  | true =>
    go_wp2
    go_ret
    exact ⟨rfl, HB1.out⟩
  | false =>
    have hno := bigS_no L HBG.out.symm
    have h60 : (N : Int) ≤ 60 := by have := hno.1; have := HN.out; omega
    have HS2 := Lib.hid (fun s (h : s ∈ L) => (⟨(HS.out s h).1, Nat.le_trans (hno.2 s h) (by decide)⟩ : (∀ x ∈ s, x < 256) ∧ s.length ≤ 1000000000))
    have HS3 := Lib.hid (fun s (h : s ∈ L) => (HS.out s h).1)
    clear hno HBG
    have hnp := fsz_pos N
    have HFZ : Hid (fsz N = fsz L.length) := Lib.hid (by rw [HN.out])
    have HM1 := Lib.hid (make_any A c L w1 ((HR.out.below HB1.out).up s1) HS2.out (by have := HN.out; omega) (HT.out.below HB1.out HT.out.1))
    rw [← HFZ.out, ← HN.out] at HM1
    have HIN := Lib.hid (fun s (h : s ∈ L) => may_in (fsz N) hnp L HS3.out s h)
    have HLF : Hid ((mkF (fsz N) L).length = fsz N ∧ ∀ x ∈ mkF (fsz N) L, x < 256) := Lib.hid ⟨mkF_len _ _, mkF_lt _ _⟩
    have HRV : Hid (mkF (fsz N) L.reverse = mkF (fsz N) L) := Lib.hid (mkF_rev (fsz N) hnp L HS3.out)
    have hfz : (fsz N : Int) ≤ 1048576 := by unfold fsz; omega
    generalize hF : mkF (fsz N) L = F at *
    have HFS : Hid (flt F = .agg #[.string (strB F)]) := Lib.hid rfl
    rw [HFS.out] at HM1
    have HMAY := Lib.hid (fun W s (h : s ∈ L) (hb : Below w.heap.size w W) => may_any F s HLF.out.2 (by rw [HLF.out.1]; exact hfz) (HS3.out s h) (HS2.out s h).2 W (HT.out.below hb HT.out.1))
    have HBY := Lib.hid (fun W => bytes_any F HLF.out.2 (by rw [HLF.out.1]; exact hfz) W)
    rw [HFS.out] at HMAY HBY
    clear hF
    generalize hFS : strB F = FS at *
    clear hFS
    go_wp2_with fail
    refine HM1.out.mono ?_
    rintro e w2 ⟨rfl, hb2⟩
    have HB2 := Lib.hid (HB1.out.trans (hb2.mono s1))
    have s2 := HB2.out.size
    clear hb2 HM1
    go_upto_region 6 with fail
    obtain ⟨w4, hw4⟩ : ∃ w4, w4 = w2.alloc (.cells #[.string FS] 26) := ⟨_, rfl⟩
    rw [← hw4]
    have HB4 : Hid (Below w.heap.size w w4) := by rw [hw4]; exact Lib.hid (HB2.out.alloc s2 _)
    obtain ⟨gf, hgf⟩ : ∃ gf, gf = w2.heap.size := ⟨_, rfl⟩
    have cf4 : w4.cell? ⟨gf, 0, none⟩ = some (.string FS) := by rw [hw4, hgf, World.cell?_alloc_mark]; rfl
    rw [← hgf]
    have HCF4 := Lib.hid cf4
    have z4 : gf < w4.heap.size := World.block_lt_of_cell? _ _ cf4
    clear hw4 hgf cf4 HB2
    go_upto_region 9 with fail
    obtain ⟨b, hb⟩ : ∃ b, b = w4.heap.size := ⟨_, rfl⟩
    have X0 : Buf (w4.alloc (.cells #[] 9)) b (.slice (some ⟨b, 0, none⟩) 0 0) (N - N) (strs (L.drop N).reverse) := by
      have e1 : L.drop N = [] := by rw [HN.out]; simp
      rw [e1, Nat.sub_self, hb]
      exact Buf.new w4 w4.heap.size 9 #[] (0, 0) (Nat.le_refl _) (by unfold maxLen; simp)
    have Y0 : Below b w4 (w4.alloc (.cells #[] 9)) := by rw [hb]; exact (Below.refl _ _).alloc (Nat.le_refl _) _
    have HX0 := Lib.hid X0
    have HY0 := Lib.hid Y0
    rw [← hb]
    have sb : w.heap.size ≤ b := by rw [hb]; exact HB4.out.size
    have HBE := Lib.hid hb
    rw [← hb] at z4
    clear X0 Y0 hb
    generalize w4.alloc (.cells #[] 9) = w5 at *
    go_upto_region 10 with fail
    go_loopg [5, 6] (N + 1) (fun kx v5 v6 wr => ∃ k : Nat, k ≤ N ∧ kx = k + 1 ∧ v6 = .int .i64 ((k : Int) - 1) ∧ Hid (Buf wr b v5 (N - k) (strs (L.drop k).reverse) ∧ Below b w4 wr))
    case atStart => exact ⟨N, Nat.le_refl _, rfl, rfl, Lib.hid ⟨HX0.out, HY0.out⟩⟩
    case round =>
      obtain ⟨k, hk, hkx, rfl, HI⟩ := hrel
      have HK := Lib.hid hkx
      clear hkx
      rcases k with _ | q
      · -- all are told
        have hbw : Below w.heap.size w wr := HB4.out.trans (HI.out.2.mono sb)
        have sw := HI.out.2.size
        have HBF := HI.out.1
        rw [List.drop_zero, Nat.sub_zero] at HBF
        obtain ⟨A5, c5, rfl, _, hr5⟩ := HBF.slice
        have HM2 := Lib.hid (make_any A5 c5 L.reverse wr (by rw [List.length_reverse, ← HN.out]; exact hr5) (fun s h => HS2.out s (by simpa using h)) (by rw [List.length_reverse, ← HN.out]; omega) (HT.out.below hbw HT.out.1))
        rw [List.length_reverse, ← HN.out, HRV.out, HFS.out] at HM2
        have cf := (HI.out.2.cell (p := ⟨gf, 0, none⟩) z4).trans HCF4.out
        have HBW0 := Lib.hid hbw
        have zr : gf < wr.heap.size := by have := HBE.out; omega
        clear HBF hr5 hbw
        go_wp2_with fail
        refine HM2.out.mono ?_
        rintro e w6 ⟨rfl, hb6⟩
        have HB6 := Lib.hid (HBW0.out.trans (hb6.mono HBW0.out.size))
        have cf6 := (hb6.cell (p := ⟨gf, 0, none⟩) zr).trans cf
        have z6 : gf < w6.heap.size := World.block_lt_of_cell? _ _ cf6
        have s6 := HB6.out.size
        clear hb6 HM2 cf
        go_upto_region 16 with fail
        obtain ⟨w0, hw0⟩ : ∃ w0, w0 = w6.alloc (.cells #[.string FS] 26) := ⟨_, rfl⟩
        rw [← hw0]
        have HBW : Hid (Below w.heap.size w w0) := by rw [hw0]; exact Lib.hid (HB6.out.alloc s6 _)
        obtain ⟨gg, hgg⟩ : ∃ gg, gg = w6.heap.size := ⟨_, rfl⟩
        have cg : w0.cell? ⟨gg, 0, none⟩ = some (.string FS) := by rw [hw0, hgg, World.cell?_alloc_mark]; rfl
        have cf : w0.cell? ⟨gf, 0, none⟩ = some (.string FS) := by rw [hw0, ((Below.refl _ w6).alloc (Nat.le_refl _) _).cell (p := ⟨gf, 0, none⟩) z6]; exact cf6
        rw [← hgg]
        have l1 : gf < w0.heap.size := World.block_lt_of_cell? _ _ cf
        have l2 : gg < w0.heap.size := World.block_lt_of_cell? _ _ cg
        have KEEP := Lib.hid (fun (wx wy : World) (h : wx.cell? ⟨gf, 0, none⟩ = some (.string FS) ∧ wx.cell? ⟨gg, 0, none⟩ = some (.string FS) ∧ Below w0.heap.size w0 wx) (hb : Below wx.heap.size wx wy) =>
          (⟨(hb.cell (p := ⟨gf, 0, none⟩) (Nat.lt_of_lt_of_le l1 h.2.2.size)).trans h.1, (hb.cell (p := ⟨gg, 0, none⟩) (Nat.lt_of_lt_of_le l2 h.2.2.size)).trans h.2.1, h.2.2.trans (hb.mono h.2.2.size)⟩ : wy.cell? ⟨gf, 0, none⟩ = some (.string FS) ∧ wy.cell? ⟨gg, 0, none⟩ = some (.string FS) ∧ Below w0.heap.size w0 wy))
        clear hw0 hgg cf6 z6 l1 l2
        refine wp_region_noPanic ?_
        refine wp_region_held_drew (S := (fun wx => wx.cell? ⟨gf, 0, none⟩ = some (.string FS) ∧ wx.cell? ⟨gg, 0, none⟩ = some (.string FS) ∧ Below w0.heap.size w0 wx)) (by kernel_rfl) (⟨cf, cg, (Below.refl _ _).drew⟩) (fun hHeld => ?_)
        refine wpAnyH_take (i := 0) (v := ?_) (by simp only [List.getElem?_toArray, List.getElem?_cons_succ, List.getElem?_cons_zero]; rfl) (by kernel_rfl) (by kernel_rfl) (by kernel_rfl) (fun _ _ _ h => h) (Or.inl ⟨by rfl, ?_⟩) (by assumption) ?_
        rotate_left
        · (intro w hSw; (try dsimp only at hSw); go_simp; (try with_reducible rfl))
        (try simp only [Act.put, List.setIfInBounds_toArray, List.set_cons_zero, List.set_cons_succ])
        refine wpAnyH_take (i := 1) (v := ?_) (by simp only [List.getElem?_toArray, List.getElem?_cons_succ, List.getElem?_cons_zero]; rfl) (by kernel_rfl) (by kernel_rfl) (by kernel_rfl) (fun _ _ _ h => h) (Or.inl ⟨by rfl, ?_⟩) (by assumption) ?_
        rotate_left
        · (intro w hSw; (try dsimp only at hSw); go_simp; (try with_reducible rfl))
        (try simp only [Act.put, List.setIfInBounds_toArray, List.set_cons_zero, List.set_cons_succ])
        refine wpAnyH_take (i := 2) (v := ?_) (by simp only [List.getElem?_toArray, List.getElem?_cons_succ, List.getElem?_cons_zero]; rfl) (by kernel_rfl) (by kernel_rfl) (by kernel_rfl) (fun _ _ _ h => h) (Or.inl ⟨by rfl, ?_⟩) (by assumption) ?_
        rotate_left
        · (intro w hSw; (try dsimp only at hSw); go_simp; (try with_reducible rfl))
        (try simp only [Act.put, List.setIfInBounds_toArray, List.set_cons_zero, List.set_cons_succ])
        refine wpAnyH_take (i := 3) (v := ?_) (by simp only [List.getElem?_toArray, List.getElem?_cons_succ, List.getElem?_cons_zero]; rfl) (by kernel_rfl) (by kernel_rfl) (by kernel_rfl) (fun _ _ _ h => h) (Or.inl ⟨by rfl, ?_⟩) (by assumption) ?_
        rotate_left
        · (intro w hSw; (try dsimp only at hSw); go_simp; (try with_reducible rfl))
        (try simp only [Act.put, List.setIfInBounds_toArray, List.set_cons_zero, List.set_cons_succ])
        refine wpAnyH_take (i := 6) (v := ?_) (by simp only [List.getElem?_toArray, List.getElem?_cons_succ, List.getElem?_cons_zero]; rfl) (by kernel_rfl) (by kernel_rfl) (by kernel_rfl) (fun _ _ _ h => h) (Or.inl ⟨by rfl, ?_⟩) (by assumption) ?_
        rotate_left
        · (intro w hSw; (try dsimp only at hSw); go_simp; (try with_reducible rfl))
        (try simp only [Act.put, List.setIfInBounds_toArray, List.set_cons_zero, List.set_cons_succ])
        refine wpAnyH_ready (rs := [4]) (by kernel_rfl) (by simp) ?_
        refine AllReadyH.cons (by simp only [List.getElem?_toArray, List.getElem?_cons_succ, List.getElem?_cons_zero]; rfl) (fun K hK => ?_) AllReadyH.nil
        go_simp
        refine (HBY.out _).mono ?_
        rintro ee w1 ⟨A1, c1, rfl, hr1, _, hb1⟩
        refine hK.out _ _ ?_ (fun hHeld => ?_)
        · exact KEEP.out _ _ hHeld hb1
        clear hK K
        (try simp only [Act.put, List.setIfInBounds_toArray, List.set_cons_zero, List.set_cons_succ])
        refine wpAnyH_ready (rs := [5, 7]) (by kernel_rfl) (by simp) ?_
        refine AllReadyH.cons (by simp only [List.getElem?_toArray, List.getElem?_cons_succ, List.getElem?_cons_zero]; rfl) (fun K hK => ?_) (AllReadyH.cons (by simp only [List.getElem?_toArray, List.getElem?_cons_succ, List.getElem?_cons_zero]; rfl) (fun K hK => ?_) AllReadyH.nil)
        · have cv1 := run_conv (P := Tryd.prog) c1 hr1 30 9 5 Tryd.underlying30 Tryd.underlying5 Tryd.underlying9
          go_simp
          refine hK.out _ _ ?_ (fun hHeld => ?_)
          · exact hHeld
          clear hK K
          (try simp only [Act.put, List.setIfInBounds_toArray, List.set_cons_zero, List.set_cons_succ])
          refine wpAnyH_ready (rs := [7]) (by kernel_rfl) (by simp) ?_
          refine AllReadyH.cons (by simp only [List.getElem?_toArray, List.getElem?_cons_succ, List.getElem?_cons_zero]; rfl) (fun K hK => ?_) AllReadyH.nil
          go_simp
          refine (HBY.out _).mono ?_
          rintro ee w2 ⟨A2, c2, rfl, hr2, _, hb2⟩
          refine hK.out _ _ ?_ (fun hHeld => ?_)
          · exact KEEP.out _ _ hHeld hb2
          clear hK K
          (try simp only [Act.put, List.setIfInBounds_toArray, List.set_cons_zero, List.set_cons_succ])
          refine wpAnyH_ready (rs := [8]) (by kernel_rfl) (by simp) ?_
          refine AllReadyH.cons (by simp only [List.getElem?_toArray, List.getElem?_cons_succ, List.getElem?_cons_zero]; rfl) (fun K hK => ?_) AllReadyH.nil
          have cv2 := run_conv (P := Tryd.prog) c2 hr2 30 9 5 Tryd.underlying30 Tryd.underlying5 Tryd.underlying9
          go_simp
          refine hK.out _ _ ?_ (fun hHeld => ?_)
          · exact hHeld
          clear hK K
          (try simp only [Act.put, List.setIfInBounds_toArray, List.set_cons_zero, List.set_cons_succ])
          refine wpAnyH_take (i := 9) (v := ?_) (by simp only [List.getElem?_toArray, List.getElem?_cons_succ, List.getElem?_cons_zero]; rfl) (by kernel_rfl) (by kernel_rfl) (by kernel_rfl) (fun _ _ _ h => h) (Or.inl ⟨by rfl, ?_⟩) (by assumption) ?_
          rotate_left
          · (intro w hSw; (try dsimp only at hSw); go_simp; (try with_reducible rfl))
          (try simp only [Act.put, List.setIfInBounds_toArray, List.set_cons_zero, List.set_cons_succ])
          refine wpAnyH_take (i := 10) (v := ?_) (by simp only [List.getElem?_toArray, List.getElem?_cons_succ, List.getElem?_cons_zero]; rfl) (by kernel_rfl) (by kernel_rfl) (by kernel_rfl) (fun _ _ _ h => h) (Or.inl ⟨by rfl, ?_⟩) (by assumption) ?_
          rotate_left
          · (intro w hSw; (try dsimp only at hSw); go_simp; (try with_reducible rfl))
          (try simp only [Act.put, List.setIfInBounds_toArray, List.set_cons_zero, List.set_cons_succ])
          refine wpAnyH_take (i := 11) (v := ?_) (by simp only [List.getElem?_toArray, List.getElem?_cons_succ, List.getElem?_cons_zero]; rfl) (by kernel_rfl) (by kernel_rfl) (by kernel_rfl) (fun _ _ _ h => h) (Or.inl ⟨by rfl, ?_⟩) (by assumption) ?_
          rotate_left
          · (intro w hSw; (try dsimp only at hSw); go_simp; (try with_reducible rfl))
          (try simp only [Act.put, List.setIfInBounds_toArray, List.set_cons_zero, List.set_cons_succ])
          refine wpAnyH_done (by kernel_rfl) ?_ _
          refine NoPanic.normal ?_
          have HF := Lib.hid (HBW.out.trans (hHeld.2.2.mono HBW.out.size))
          clear hHeld
          go_wp2
          go_ret
          exact ⟨by simp, HF.out⟩
        · go_simp
          refine (HBY.out _).mono ?_
          rintro ee w2 ⟨A2, c2, rfl, hr2, _, hb2⟩
          have hr1' := (hr1.below hb2).up hb2.size
          refine hK.out _ _ ?_ (fun hHeld => ?_)
          · exact KEEP.out _ _ hHeld hb2
          clear hK K
          (try simp only [Act.put, List.setIfInBounds_toArray, List.set_cons_zero, List.set_cons_succ])
          refine wpAnyH_ready (rs := [5, 8]) (by kernel_rfl) (by simp) ?_
          refine AllReadyH.cons (by simp only [List.getElem?_toArray, List.getElem?_cons_succ, List.getElem?_cons_zero]; rfl) (fun K hK => ?_) (AllReadyH.cons (by simp only [List.getElem?_toArray, List.getElem?_cons_succ, List.getElem?_cons_zero]; rfl) (fun K hK => ?_) AllReadyH.nil)
          · have cv1 := run_conv (P := Tryd.prog) c1 hr1' 30 9 5 Tryd.underlying30 Tryd.underlying5 Tryd.underlying9
            go_simp
            refine hK.out _ _ ?_ (fun hHeld => ?_)
            · exact hHeld
            clear hK K
            (try simp only [Act.put, List.setIfInBounds_toArray, List.set_cons_zero, List.set_cons_succ])
            refine wpAnyH_ready (rs := [8]) (by kernel_rfl) (by simp) ?_
            refine AllReadyH.cons (by simp only [List.getElem?_toArray, List.getElem?_cons_succ, List.getElem?_cons_zero]; rfl) (fun K hK => ?_) AllReadyH.nil
            have cv2 := run_conv (P := Tryd.prog) c2 hr2 30 9 5 Tryd.underlying30 Tryd.underlying5 Tryd.underlying9
            go_simp
            refine hK.out _ _ ?_ (fun hHeld => ?_)
            · exact hHeld
            clear hK K
            (try simp only [Act.put, List.setIfInBounds_toArray, List.set_cons_zero, List.set_cons_succ])
            refine wpAnyH_take (i := 9) (v := ?_) (by simp only [List.getElem?_toArray, List.getElem?_cons_succ, List.getElem?_cons_zero]; rfl) (by kernel_rfl) (by kernel_rfl) (by kernel_rfl) (fun _ _ _ h => h) (Or.inl ⟨by rfl, ?_⟩) (by assumption) ?_
            rotate_left
            · (intro w hSw; (try dsimp only at hSw); go_simp; (try with_reducible rfl))
            (try simp only [Act.put, List.setIfInBounds_toArray, List.set_cons_zero, List.set_cons_succ])
            refine wpAnyH_take (i := 10) (v := ?_) (by simp only [List.getElem?_toArray, List.getElem?_cons_succ, List.getElem?_cons_zero]; rfl) (by kernel_rfl) (by kernel_rfl) (by kernel_rfl) (fun _ _ _ h => h) (Or.inl ⟨by rfl, ?_⟩) (by assumption) ?_
            rotate_left
            · (intro w hSw; (try dsimp only at hSw); go_simp; (try with_reducible rfl))
            (try simp only [Act.put, List.setIfInBounds_toArray, List.set_cons_zero, List.set_cons_succ])
            refine wpAnyH_take (i := 11) (v := ?_) (by simp only [List.getElem?_toArray, List.getElem?_cons_succ, List.getElem?_cons_zero]; rfl) (by kernel_rfl) (by kernel_rfl) (by kernel_rfl) (fun _ _ _ h => h) (Or.inl ⟨by rfl, ?_⟩) (by assumption) ?_
            rotate_left
            · (intro w hSw; (try dsimp only at hSw); go_simp; (try with_reducible rfl))
            (try simp only [Act.put, List.setIfInBounds_toArray, List.set_cons_zero, List.set_cons_succ])
            refine wpAnyH_done (by kernel_rfl) ?_ _
            refine NoPanic.normal ?_
            have HF := Lib.hid (HBW.out.trans (hHeld.2.2.mono HBW.out.size))
            clear hHeld
            go_wp2
            go_ret
            exact ⟨by simp, HF.out⟩
          · have cv2 := run_conv (P := Tryd.prog) c2 hr2 30 9 5 Tryd.underlying30 Tryd.underlying5 Tryd.underlying9
            go_simp
            refine hK.out _ _ ?_ (fun hHeld => ?_)
            · exact hHeld
            clear hK K
            (try simp only [Act.put, List.setIfInBounds_toArray, List.set_cons_zero, List.set_cons_succ])
            refine wpAnyH_ready (rs := [5]) (by kernel_rfl) (by simp) ?_
            refine AllReadyH.cons (by simp only [List.getElem?_toArray, List.getElem?_cons_succ, List.getElem?_cons_zero]; rfl) (fun K hK => ?_) AllReadyH.nil
            have cv1 := run_conv (P := Tryd.prog) c1 hr1' 30 9 5 Tryd.underlying30 Tryd.underlying5 Tryd.underlying9
            go_simp
            refine hK.out _ _ ?_ (fun hHeld => ?_)
            · exact hHeld
            clear hK K
            (try simp only [Act.put, List.setIfInBounds_toArray, List.set_cons_zero, List.set_cons_succ])
            refine wpAnyH_take (i := 9) (v := ?_) (by simp only [List.getElem?_toArray, List.getElem?_cons_succ, List.getElem?_cons_zero]; rfl) (by kernel_rfl) (by kernel_rfl) (by kernel_rfl) (fun _ _ _ h => h) (Or.inl ⟨by rfl, ?_⟩) (by assumption) ?_
            rotate_left
            · (intro w hSw; (try dsimp only at hSw); go_simp; (try with_reducible rfl))
            (try simp only [Act.put, List.setIfInBounds_toArray, List.set_cons_zero, List.set_cons_succ])
            refine wpAnyH_take (i := 10) (v := ?_) (by simp only [List.getElem?_toArray, List.getElem?_cons_succ, List.getElem?_cons_zero]; rfl) (by kernel_rfl) (by kernel_rfl) (by kernel_rfl) (fun _ _ _ h => h) (Or.inl ⟨by rfl, ?_⟩) (by assumption) ?_
            rotate_left
            · (intro w hSw; (try dsimp only at hSw); go_simp; (try with_reducible rfl))
            (try simp only [Act.put, List.setIfInBounds_toArray, List.set_cons_zero, List.set_cons_succ])
            refine wpAnyH_take (i := 11) (v := ?_) (by simp only [List.getElem?_toArray, List.getElem?_cons_succ, List.getElem?_cons_zero]; rfl) (by kernel_rfl) (by kernel_rfl) (by kernel_rfl) (fun _ _ _ h => h) (Or.inl ⟨by rfl, ?_⟩) (by assumption) ?_
            rotate_left
            · (intro w hSw; (try dsimp only at hSw); go_simp; (try with_reducible rfl))
            (try simp only [Act.put, List.setIfInBounds_toArray, List.set_cons_zero, List.set_cons_succ])
            refine wpAnyH_done (by kernel_rfl) ?_ _
            refine NoPanic.normal ?_
            have HF := Lib.hid (HBW.out.trans (hHeld.2.2.mono HBW.out.size))
            clear hHeld
            go_wp2
            go_ret
            exact ⟨by simp, HF.out⟩
      · have hq : q < N := by omega
        obtain ⟨s, hs⟩ : ∃ s, L[q]? = some s := ⟨_, List.getElem?_eq_getElem (by have := HN.out; omega)⟩
        have hmem : s ∈ L := List.mem_of_getElem? hs
        have hbw : Below w.heap.size w wr := HB4.out.trans (HI.out.2.mono sb)
        have sw := HI.out.2.size
        have hqe : (((q + 1 : Nat) : Int) - 1) = (q : Int) := by omega
        rw [hqe]
        clear hqe
        obtain ⟨g, off, u, rfl, hgB, hu, hcell⟩ := (HR.out.below hbw).at_ (k := q) (by have := HN.out; omega)
        rw [strs_get L q s hs] at hu
        injection hu with hu
        subst hu
        have cf := (HI.out.2.cell (p := ⟨gf, 0, none⟩) z4).trans HCF4.out
        have HM := Lib.hid (fun W (hb : Below wr.heap.size wr W) => HMAY.out W s hmem (hbw.trans (hb.mono hbw.size)))
        have HTR : Hid (mayB F s = true) := Lib.hid (HIN.out s hmem)
        rw [HTR.out] at HM
        have HRD := Lib.hid (rev_drop L q s hs)
        have l1 : gf < wr.heap.size := World.block_lt_of_cell? _ _ cf
        have l2 : g < wr.heap.size := World.block_lt_of_cell? _ _ hcell
        have KEEP := Lib.hid (fun (wx wy : World) (h : wx.cell? ⟨gf, 0, none⟩ = some (.string FS) ∧ wx.cell? ⟨g, off + q, none⟩ = some (.string (strB s)) ∧ Below wr.heap.size wr wx) (hb : Below wx.heap.size wx wy) =>
          (⟨(hb.cell (p := ⟨gf, 0, none⟩) (Nat.lt_of_lt_of_le l1 h.2.2.size)).trans h.1, (hb.cell (p := ⟨g, off + q, none⟩) (Nat.lt_of_lt_of_le l2 h.2.2.size)).trans h.2.1, h.2.2.trans (hb.mono h.2.2.size)⟩ : wy.cell? ⟨gf, 0, none⟩ = some (.string FS) ∧ wy.cell? ⟨g, off + q, none⟩ = some (.string (strB s)) ∧ Below wr.heap.size wr wy))
        have HBW := Lib.hid hbw
        have hq' : (q : Int) < (N : Int) := by omega
        clear hbw l1 l2 hs hmem
        go_upto_region 12 with fail
        refine wp_region_noPanic ?_
        refine wp_region_held_drew (S := (fun wx => wx.cell? ⟨gf, 0, none⟩ = some (.string FS) ∧ wx.cell? ⟨g, off + q, none⟩ = some (.string (strB s)) ∧ Below wr.heap.size wr wx)) (by kernel_rfl) (⟨cf, hcell, (Below.refl _ _).drew⟩) (fun hHeld => ?_)
        refine wpAnyH_take (i := 0) (v := ?_) (by simp only [List.getElem?_toArray, List.getElem?_cons_succ, List.getElem?_cons_zero]; rfl) (by kernel_rfl) (by kernel_rfl) (by kernel_rfl) (fun _ _ _ h => h) (Or.inl ⟨by rfl, ?_⟩) (by assumption) ?_
        rotate_left
        · (intro w hSw; (try dsimp only at hSw); go_simp; (try with_reducible rfl))
        (try simp only [Act.put, List.setIfInBounds_toArray, List.set_cons_zero, List.set_cons_succ])
        refine wpAnyH_take (i := 1) (v := ?_) (by simp only [List.getElem?_toArray, List.getElem?_cons_succ, List.getElem?_cons_zero]; rfl) (by kernel_rfl) (by kernel_rfl) (by kernel_rfl) (fun _ _ _ h => h) (Or.inl ⟨by rfl, ?_⟩) (by assumption) ?_
        rotate_left
        · (intro w hSw; (try dsimp only at hSw); go_simp; (try with_reducible rfl))
        (try simp only [Act.put, List.setIfInBounds_toArray, List.set_cons_zero, List.set_cons_succ])
        refine wpAnyH_take (i := 2) (v := ?_) (by simp only [List.getElem?_toArray, List.getElem?_cons_succ, List.getElem?_cons_zero]; rfl) (by kernel_rfl) (by kernel_rfl) (by kernel_rfl) (fun _ _ _ h => h) (Or.inl ⟨by rfl, ?_⟩) (by assumption) ?_
        rotate_left
        · (intro w hSw; (try dsimp only at hSw); go_simp; (try with_reducible rfl))
        (try simp only [Act.put, List.setIfInBounds_toArray, List.set_cons_zero, List.set_cons_succ])
        refine wpAnyH_take (i := 3) (v := ?_) (by simp only [List.getElem?_toArray, List.getElem?_cons_succ, List.getElem?_cons_zero]; rfl) (by kernel_rfl) (by kernel_rfl) (by kernel_rfl) (fun _ _ _ h => h) (Or.inl ⟨by rfl, ?_⟩) (by assumption) ?_
        rotate_left
        · (intro w hSw; (try dsimp only at hSw); go_simp; (try with_reducible rfl))
        (try simp only [Act.put, List.setIfInBounds_toArray, List.set_cons_zero, List.set_cons_succ])
        refine wpAnyH_take (i := 4) (v := ?_) (by simp only [List.getElem?_toArray, List.getElem?_cons_succ, List.getElem?_cons_zero]; rfl) (by kernel_rfl) (by kernel_rfl) (by kernel_rfl) (fun _ _ _ h => h) (Or.inl ⟨by rfl, ?_⟩) (by assumption) ?_
        rotate_left
        · (intro w hSw; (try dsimp only at hSw); go_simp; (try with_reducible rfl))
        (try simp only [Act.put, List.setIfInBounds_toArray, List.set_cons_zero, List.set_cons_succ])
        refine wpAnyH_ready (rs := [5]) (by kernel_rfl) (by simp) ?_
        refine AllReadyH.cons (by simp only [List.getElem?_toArray, List.getElem?_cons_succ, List.getElem?_cons_zero]; rfl) (fun K hK => ?_) AllReadyH.nil
        go_simp
        refine (HM.out _ hHeld.2.2).mono ?_
        rintro ee w6 ⟨rfl, hb6⟩
        refine hK.out _ _ ?_ (fun hHeld => ?_)
        · exact KEEP.out _ _ hHeld hb6
        clear hK K
        (try simp only [Act.put, List.setIfInBounds_toArray, List.set_cons_zero, List.set_cons_succ])
        refine wpAnyH_take (i := 6) (v := ?_) (by simp only [List.getElem?_toArray, List.getElem?_cons_succ, List.getElem?_cons_zero]; rfl) (by kernel_rfl) (by kernel_rfl) (by kernel_rfl) (fun _ _ _ h => h) (Or.inl ⟨by rfl, ?_⟩) (by assumption) ?_
        rotate_left
        · (intro w hSw; (try dsimp only at hSw); go_simp; (try with_reducible rfl))
        (try simp only [Act.put, List.setIfInBounds_toArray, List.set_cons_zero, List.set_cons_succ])
        refine wpAnyH_done (by kernel_rfl) ?_ _
        refine NoPanic.normal ?_
        have c6 := hHeld.2.1
        have HB6 := Lib.hid (HI.out.2.trans (hHeld.2.2.mono (by have := HBE.out; omega)))
        have hX := HI.out.1.below hHeld.2.2 (fun k hk => (HI.out.1.lt k hk).2)
        have hs6 := HB6.out.size
        have hb6' : b ≤ w6.heap.size := by have := HBE.out; omega
        clear hHeld cf hb6
        go_wp2_with (at_builtin; refine wpList_append_one _ rfl (.tmp 35) (.tmp 40) 22 rfl b 9 i9 (.string ⟨#[]⟩) 16 Tryd.underlying22 hi hz0 hz1 hz2 rfl rfl hX rfl rfl ?b1 ?b2 hb6' ?next)
        case b1 => unfold maxLen; omega
        case b2 => omega
        case next =>
          intro v' w' r1 r2 r3
          have hB1 := (Below.refl b w6).grown r2 hb6' fun k hk => (hX.lt k hk).1
          have HBW2 := Lib.hid (HB6.out.trans hB1)
          have e1 : N - (q + 1) + 1 = N - q := by omega
          rw [e1] at r1
          have HR1 := Lib.hid r1
          clear r1 r2 r3 hX hB1
          go_wp2
          go_roundg (q + 1)
          case measure => have := HK.out; omega
          case rel =>
            refine ⟨q, by omega, rfl, by go_num, Lib.hid ⟨?_, HBW2.out⟩⟩
            rw [HRD.out]
            have := HR1.out
            simpa [strs] using this
end Go.Proofs.YtajgmadohhagkaaDoor
