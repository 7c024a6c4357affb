/- The walk of RecordAgain. -/
import Derived.Test.YtahbhaphodgomabDoorR7
import Derived.Deep.QuietTactic
import Derived.BigQuiet
namespace Go.Proofs.YtahbhaphodgomabDoor
set_option linter.unusedSimpArgs false
set_option linter.unusedVariables false
open Go.RowKit

set_option maxHeartbeats 1000000 in
theorem again_early (A : Option Addr) (n c : Nat) (w : World) (ht : TabAt w) (h : (600 : Int) < (n : Int)) :
    Calls Tryd.prog 8 #[.slice A n c] w fun e w' => e = .returned (.bool true) ∧ Below w.heap.size w w' := by
  have HT := Lib.hid ht
  clear ht
  go_enter Tryd.func8, Tryd.ntmps8
  go_wp2_with fail
  refine (head_any _ HT.out).mono ?_
  rintro e w1 ⟨rfl, hb1⟩
  go_wp2_with fail
  go_ret
  exact ⟨rfl, hb1⟩

theorem Below.drewN' {B : Nat} {a w : World} (h : Below B a w) (n : Nat) : Below B a (w.drewN n) := ⟨h.os, h.tape, h.output, h.size, h.block⟩

/-- An element of a list of slices, in a later world. -/
theorem Els.at_ {w w' : World} {base B : Nat} {u : Value} {vs : List Value} {ds : List (List Nat)} (h : Els w base u vs ds) (hb : Below B w w') (hB : w.heap.size ≤ B) (j : Nat) (hj : j < ds.length) :
    ∃ A c, vs[j]? = some (.slice A (ds[j]).length c) ∧ Rd w' w.heap.size A (ds[j]).length (bys ds[j]) := by
  have hjv : j < vs.length := by rw [h.len]; exact hj
  have hv := h.each j _ _ (List.getElem?_eq_getElem hjv) (List.getElem?_eq_getElem hj)
  obtain ⟨A, c, e, _, hr⟩ := hv.slice
  exact ⟨A, c, by rw [List.getElem?_eq_getElem hjv, e], hr.below (hb.mono hB)⟩

set_option maxHeartbeats 2000000 in
set_option maxRecDepth 100000 in
theorem again_walk (A : Option Addr) (n c : Nat) (bs : List Nat) (w : World) (hr : Rd w w.heap.size A n (bys bs)) (hb : ∀ c ∈ bs, c < 256) (ht : TabAt w) (hn : (n : Int) ≤ 600) (hc : n ≤ c) (hcm : c ≤ maxLen) :
    Calls Tryd.prog 8 #[.slice A n c] w fun e w' => e = .returned (.bool true) ∧ Below w.heap.size w w' := by
  obtain ⟨i0, hi, hz0, hz1, hz2⟩ := info_parts Tryd.info5
  have hbl : bs.length = n := by have := hr.1; rwa [bys_len] at this
  have HBL := Lib.hid hbl
  have HT := Lib.hid ht
  have HB := Lib.hid hb
  have HR0 := Lib.hid hr
  have hd6 : decide ((600 : Int) < (n : Int)) = false := by simp; omega
  clear ht hb hbl hr
  go_enter Tryd.func8, Tryd.ntmps8
  go_wp2_with fail
  refine (head_any _ HT.out).mono ?_
  rintro e w1 ⟨rfl, hb1⟩
  have hs1 := hb1.size
  go_wp2_with fail
  refine (all_any A n c bs w1 ((HR0.out.below hb1).up hs1) HB.out (by omega) hc hcm (HT.out.below hb1 HT.out.1)).mono ?_
  rintro e w2 ⟨v2, vs, ds, a, rfl, hch, hE, hbuf, hels, hb2⟩
  have hs2 := hb2.size
  have hB2w := hb1.trans (hb2.mono hs1)
  obtain ⟨ha, htk, hdd, hdl⟩ := chain_take bs HB.out hch
  rw [HBL.out] at ha
  have hE12 : (if nE (bs.drop a) = 8 then 0 else 12 : Nat) = 0 ∨ (if nE (bs.drop a) = 8 then 0 else 12 : Nat) = 12 := by split <;> simp
  generalize (if nE (bs.drop a) = 8 then 0 else 12 : Nat) = E at *
  have hgd : ((E : Int) != 0 && (E : Int) != 12) = false := by rcases hE12 with rfl | rfl <;> rfl
  obtain ⟨A2, c2, rfl, hc2, hr2⟩ := hbuf.slice
  have hcm2 := hbuf.cap_le
  have HTK := Lib.hid htk
  have HDD := Lib.hid hdd
  have hvl : vs.length ≤ 50 := by rw [hels.len]; omega
  have HLEN := Lib.hid hels.len
  have hb0 := Buf.new w2 w2.heap.size 5 #[] (0, 0) (Nat.le_refl _) (by unfold maxLen; simp)
  have hba : Below w2.heap.size w2 (w2.alloc (.cells #[] 5)) := (Below.refl _ _).alloc (Nat.le_refl _) _
  clear htk hdd hch hE hdl hbuf
  clear hgd
  rcases hE12 with rfl | rfl
  all_goals
    go_wp2_with fail
    go_loopg [6, 31] vs.length (fun m b i wr => ∃ j : Nat, m = vs.length - j ∧ j ≤ vs.length ∧ i = .int .i64 (j : Int) ∧ Buf wr w2.heap.size b (recs (ds.take j)).length (bys (recs (ds.take j))) ∧ Below w2.heap.size w2 wr)
    case atStart => exact ⟨0, rfl, by omega, rfl, by simpa [recs, bys] using hb0, hba⟩
    case round =>
      obtain ⟨j, hm, hj, rfl, hbuf, hbw⟩ := hrel
      have HM := Lib.hid hm
      clear hm
      have hpre : (recs (ds.take j)).length ≤ a := by
        have h1 : recs ds = recs (ds.take j) ++ recs (ds.drop j) := by rw [recs, recs, recs, ← List.flatMap_append, List.take_append_drop]
        have h2 := congrArg List.length HTK.out
        rw [h1, List.length_take, List.length_append, HBL.out] at h2
        omega
      have hBw := hB2w.trans (hbw.mono hB2w.size)
      by_cases hlt : j < vs.length
      · have hlt' : (j : Int) < (vs.length : Int) := by omega
        have hjd : j < ds.length := by rw [← HLEN.out]; exact hlt
        obtain ⟨Aj, cj, hvj, hrj⟩ := hels.at_ hbw (Nat.le_refl _) j hjd
        have hrl := hr2.below hbw
        obtain ⟨g, off, u, rfl, hgB, hu, hcell⟩ := hrl.at_ (k := j) hlt
        rw [hvj] at hu
        injection hu with hu
        subst hu
        have hdj := HDD.out _ (List.getElem_mem hjd)
        have hTS : Hid (recs (ds.take (j + 1)) = recs (ds.take j) ++ recB ds[j]) := Lib.hid (by rw [List.take_succ_eq_append_getElem hjd, recs_snoc])
        have hjl : (ds[j]).length ≤ 600 := by
          have h1 : recs ds = recs (ds.take (j + 1)) ++ recs (ds.drop (j + 1)) := by rw [recs, recs, recs, ← List.flatMap_append, List.take_append_drop]
          have h2 := congrArg List.length HTK.out
          rw [h1, hTS.out, List.length_take, List.length_append, List.length_append, recB_len, HBL.out] at h2
          omega
        generalize ds[j] = dj at *
        have hap : ∀ g' off', Aj = some ⟨g', off', none⟩ → 0 < dj.length → u6.ownBlock ≠ some g' := by
          intro g' off' e hL hv
          obtain ⟨g2, o2, e2, hg2, _⟩ := hrj.2 hL
          rw [e] at e2
          injection e2 with e2
          injection e2 with e3
          have := (hbuf.lt g' hv).1
          omega
        have HP := Lib.hid (put_any Aj dj.length cj dj wr w2.heap.size hbuf (by omega) hbw.size (hrj.up hbw.size) hdj.2 (by omega) hap (HT.out.below hBw HT.out.1))
        clear hap hrj hvj
        go_wp2_with fail
        refine HP.out.mono ?_
        rintro e w3 ⟨v3, rfl, hl3⟩
        have hB3 := hbw.trans (hl3.below hbuf hbw.size)
        go_wp2_with fail
        go_roundg (vs.length - (j + 1))
        case measure => have := HM.out; omega
        case rel =>
          refine ⟨j + 1, rfl, by omega, by go_num, ?_, hB3⟩
          rw [hTS.out, bys_app, List.length_append, recB_len]
          exact hl3.buf
      · have hlt' : decide ((j : Int) < (vs.length : Int)) = false := by simp; omega
        have hdt : ds.take j = ds := List.take_of_length_le (by rw [← HLEN.out]; omega)
        rw [hdt] at hbuf
        have hla : (recs ds).length = a := by
          have h2 := congrArg List.length HTK.out
          rw [List.length_take, HBL.out] at h2
          omega
        rw [hla, ← HTK.out] at hbuf
        obtain ⟨A6, c6, e6, _, hr6⟩ := hbuf.slice
        subst e6
        clear hpre hdt hla
        have haI : decide ((a : Int) ≤ (n : Int)) = true := by simp; omega
        have hrb := HR0.out.below hBw
        have hrbt := hrb.take a ha
        rw [← bys_take] at hrbt
        have cv1 := fun q => run_conv (P := Tryd.prog) c6 (hr6.drewN q) 22 9 5 Tryd.underlying22 Tryd.underlying5 Tryd.underlying9
        have cv2 := fun q => run_conv (P := Tryd.prog) c (hrbt.drewN q) 22 9 5 Tryd.underlying22 Tryd.underlying5 Tryd.underlying9
        have hsl := fun wx => run_slice_h (P := Tryd.prog) wx 22 5 i0 Tryd.underlying22 hi hz1 A n c a (by omega) .i64 (a : Int) rfl
        have hsame := strB_same (bs.take a)
        generalize strB (bs.take a) = T at *
        clear hr6 hrb hrbt hbuf
        have haa : ((a : Int) == (a : Int)) = true := by simp
        go_upto_region 17 with fail
        go_quiet (fail)
        go_wp2
        go_ret
        exact ⟨rfl, Below.drewN' hBw _⟩
end Go.Proofs.YtahbhaphodgomabDoor
