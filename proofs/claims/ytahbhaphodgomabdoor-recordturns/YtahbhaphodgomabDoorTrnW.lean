/- The walk of RecordTurns. -/
import Derived.Test.YtahbhaphodgomabDoorAlsW
import Derived.Test.YtahbhaphodgomabDoorTrnM
import Derived.Test.YtahbhaphodgomabDoorR8
namespace Go.Proofs.YtahbhaphodgomabDoor
set_option linter.unusedSimpArgs false
set_option linter.unusedVariables false
open Go.RowKit

theorem i64_and10 (n : Int) : bits .and .i64 n 1023 = n % 1024 := by
  have h63 : (BitVec.ofInt 64 1023).toNat = 2 ^ 10 - 1 := by decide
  have key : (BitVec.ofInt 64 n &&& BitVec.ofInt 64 1023).toNat = (n % ((2 ^ 64 : Nat) : Int)).toNat % 2 ^ 10 := by
    rw [BitVec.toNat_and, BitVec.toNat_ofInt, h63, Nat.and_two_pow_sub_one_eq_mod]
  show IntKind.i64.wrap ((BitVec.ofInt 64 n &&& BitVec.ofInt 64 1023).toNat : Nat) = n % 1024
  rw [key, IntKind.wrap_i64]
  omega

theorem Buf.cellAt {w : World} {base g n c : Nat} {xs : List Value} (h : Buf w base (.slice (some ⟨g, 0, none⟩) n c) n xs) (p : Nat) (u : Value) (hu : xs[p]? = some u) : w.cell? ⟨g, p, none⟩ = some u := by
  rcases h.2 with ⟨e, _⟩ | ⟨g', off', cap, e, hb, hlt, hnc, hcm, hx, hsp⟩
  · cases e
  · injection e with e1 e2 e3
    injection e1 with e1
    injection e1 with e4 e5
    subst e4; subst e5
    have := hx p u hu
    rwa [Nat.zero_add] at this
theorem Buf.stored {w : World} {base g n c : Nat} {xs : List Value} (h : Buf w base (.slice (some ⟨g, 0, none⟩) n c) n xs) (p : Nat) (hp : p < n) (z : Value) : Buf (w.setCell ⟨g, p, none⟩ z) base (.slice (some ⟨g, 0, none⟩) n c) n (xs.set p z) := by
  have hl : p < xs.length := by rw [h.1]; exact hp
  have hc := h.cellAt p _ (List.getElem?_eq_getElem hl)
  rcases h.2 with ⟨e, _⟩ | ⟨g', off', cap, e, hb, hlt, hnc, hcm, hx, hsp⟩
  · cases e
  · injection e with e1 e2 e3
    injection e1 with e1
    injection e1 with e4 e5
    subst e4; subst e5; subst e3
    refine ⟨by rw [List.length_set, h.1], .inr ⟨g, 0, c, rfl, hb, by rw [World.size_setCell]; exact hlt, hnc, hcm, fun j u hu => ?_, fun j j1 j2 => ?_⟩⟩
    · rw [Nat.zero_add]
      by_cases hj : p = j
      · subst hj
        rw [World.cell?_setCell_same _ _ _ hc]
        rw [List.getElem?_set_self hl] at hu
        exact hu
      · rw [World.cell?_setCell_other _ _ _ _ (fun e => hj (by injection e))]
        rw [List.getElem?_set_ne hj] at hu
        have := hx j u hu
        rwa [Nat.zero_add] at this
    · have hne : (⟨g, p, none⟩ : Addr) ≠ ⟨g, 0 + j, none⟩ := fun e => by injection e with _ e; omega
      rw [World.cell?_setCell_other _ _ _ _ hne, World.frozen?_setCell]
      exact hsp j j1 j2
theorem Warm.stored {w : World} {v : Value} (h : Warm w v) (a : Addr) (z : Value) : Warm (w.setCell a z) v := by
  intro g off n c e
  obtain ⟨q1, q2⟩ := h g off n c e
  exact ⟨q1, fun o => by rw [World.frozen?_setCell]; exact q2 o⟩

set_option maxHeartbeats 1000000 in
theorem turns_early (A : Option Addr) (n c : Nat) (x y : Int) (N : Nat) (b : Bool) (w : World) (ht : TabAt w) (h : n = 0 ∨ (10 : Int) < (n : Int) ∨ N = 0) :
    Calls Tryd.prog 6 #[.slice A n c, .int .i64 x, .int .i64 y, .int .u32 (N : Int), .bool b] w fun e w' => e = .returned (.bool true) ∧ Below w.heap.size w w' := by
  have HT := Lib.hid ht
  clear ht
  by_cases h1 : n = 0
  · subst h1
    go_enter Tryd.func6, Tryd.ntmps6
    go_wp2_with fail
    refine (head_any _ HT.out).mono ?_
    rintro e w1 ⟨rfl, hb1⟩
    go_wp2_with fail
    go_ret
    exact ⟨rfl, hb1⟩
  · have e1 : ((n : Int) == 0) = false := by simp; omega
    have e1' : ¬ (n : Int) = 0 := by omega
    by_cases h2 : (10 : Int) < (n : Int)
    · go_enter Tryd.func6, Tryd.ntmps6
      go_wp2_with fail
      refine (head_any _ HT.out).mono ?_
      rintro e w1 ⟨rfl, hb1⟩
      go_wp2_with fail
      go_ret
      exact ⟨rfl, hb1⟩
    · have h2' : decide ((10 : Int) < (n : Int)) = false := by simp; omega
      obtain rfl : N = 0 := by omega
      go_enter Tryd.func6, Tryd.ntmps6
      go_wp2_with fail
      refine (head_any _ HT.out).mono ?_
      rintro e w1 ⟨rfl, hb1⟩
      go_wp2_with fail
      go_ret
      exact ⟨rfl, hb1⟩

def fN (ds : List (List Nat)) (W j : Nat) : Nat := if j ≤ W then 0 else eN ds W

set_option maxHeartbeats 4000000 in
set_option maxRecDepth 100000 in
theorem turns_walk (A : Option Addr) (n c : Nat) (vs : List Value) (ds : List (List Nat)) (x y : Int) (N : Nat) (b : Bool) (w : World) (hr : RdL w A n vs ds) (ht : TabAt w) (h0 : 0 < n) (hn : (n : Int) ≤ 10) (hN : (N : Int) < 4294967296) (hN0 : N ≠ 0) :
    Calls Tryd.prog 6 #[.slice A n c, .int .i64 x, .int .i64 y, .int .u32 (N : Int), .bool b] w fun e w' => e = .returned (.bool true) ∧ Below w.heap.size w w' := by
  obtain ⟨K, hK, hKe⟩ : ∃ K : Nat, K < 1024 ∧ bits .and .i64 x 1023 = (K : Int) := ⟨(x % 1024).toNat, by omega, by rw [i64_and10]; omega⟩
  obtain ⟨Y, hY, hYe⟩ : ∃ Y : Nat, Y < 65536 ∧ bits .and .i64 y 65535 = (Y : Int) := ⟨(y % 65536).toNat, by omega, by rw [i64_and16]; omega⟩
  have htm : (K : Int).tmod (n : Int) = ((K % n : Nat) : Int) := by
    rw [Int.tmod_eq_emod_of_nonneg (by omega), Int.natCast_emod]
  have hW : K % n < n := Nat.mod_lt _ h0
  generalize K % n = W at *
  have HLN := Lib.hid hr.len
  have HT := Lib.hid ht
  have HR := Lib.hid hr
  have HN := Lib.hid hN
  have HY := Lib.hid hY
  have e1 : ((n : Int) == 0) = false := by simp; omega
  have e2 : decide ((10 : Int) < (n : Int)) = false := by simp; omega
  have e3 : ((N : Int) == 0) = false := by simp; omega
  have e1' : ¬ (n : Int) = 0 := by omega
  have e3' : ¬ (N : Int) = 0 := by omega
  have HWD : Hid (W < ds.length) := Lib.hid (by rw [HLN.out]; exact hW)
  clear ht hr hN hY hK
  go_enter Tryd.func6, Tryd.ntmps6
  go_wp2_with fail
  refine (head_any _ HT.out).mono ?_
  rintro e w1 ⟨rfl, hb1⟩
  have hs1 := hb1.size
  have hbA := Buf.new w1 w1.heap.size 5 #[] (0, 0) (Nat.le_refl _) (by unfold maxLen; simp)
  have hba : Below w1.heap.size w1 (w1.alloc (.cells #[] 5)) := (Below.refl _ _).alloc (Nat.le_refl _) _
  have hwa := warm_new w1 #[] 5 0 0
  go_wp2_with fail
  go_loopg [11, 12, 46] n (fun m bv fv i wr => ∃ j : Nat, m = n - j ∧ j ≤ n ∧ i = .int .i64 (j : Int) ∧ fv = .int .i64 ((fN ds W j : Nat) : Int) ∧ Buf wr w1.heap.size bv (eN ds j) (bys (recs (ds.take j))) ∧ Hid (Warm wr bv) ∧ eN ds j ≤ 212 * j ∧ Hid (∀ d ∈ ds.take j, d.length ≤ 200) ∧ Below w1.heap.size w1 wr)
  case atStart =>
    exact ⟨0, rfl, by omega, rfl, rfl, by simpa [recs, bys, eN] using hbA, Lib.hid hwa, by rw [eN_zero]; omega, Lib.hid (by simp), hba⟩
  case round =>
    obtain ⟨j, hm, hj', rfl, rfl, hbuf, HWM, hlen, HD2, hbw⟩ := hrel
    have HM := Lib.hid hm
    clear hm
    have hBw := hb1.trans (hbw.mono hs1)
    by_cases hlt : j < n
    · have hlt' : (j : Int) < (n : Int) := by omega
      have hjd : j < ds.length := by rw [HLN.out]; exact hlt
      obtain ⟨Aj, cj, hvj, hrj, hdb, hjc, hjm⟩ := HR.out.each j _ (List.getElem?_eq_getElem hjd)
      have hrl := HR.out.rd.below hBw
      obtain ⟨g, off, u, rfl, hgB, hu, hcell⟩ := hrl.at_ (k := j) hlt
      rw [hvj] at hu
      injection hu with hu
      subst hu
      have hrj := hrj.below hBw
      have hES := eN_succ ds j hjd
      have HTK : Hid (ds.take (j + 1) = ds.take j ++ [ds[j]]) := Lib.hid (List.take_succ_eq_append_getElem hjd)
      have HDB := Lib.hid hdb
      generalize ds[j] = dj at *
      clear hdb hvj hrl
      unfold maxLen at hjm
      by_cases h200 : (200 : Int) < (dj.length : Int)
      · go_wp2_with fail
        go_ret
        exact ⟨rfl, hBw⟩
      · have h200' : decide ((200 : Int) < (dj.length : Int)) = false := by simp; omega
        have hap : ∀ g' off', Aj = some ⟨g', off', none⟩ → 0 < dj.length → u11.ownBlock ≠ some g' := by
          intro g' off' e hL hv
          obtain ⟨g2, o2, e2, hg2, _⟩ := hrj.2 hL
          rw [e] at e2
          injection e2 with e2
          injection e2 with e3
          have := (hbuf.lt g' hv).1
          omega
        have HP := Lib.hid (put_warm Aj dj.length cj dj wr w1.heap.size hbuf (by omega) hbw.size (hrj.up hBw.size) HDB.out (by omega) hap (HT.out.below hBw HT.out.1))
        clear hap hrj
        obtain ⟨A5, c5, ev, hc5, _⟩ := hbuf.slice
        subst ev
        have hcm5 := hbuf.cap_le
        unfold maxLen at hcm5
        have hfn : fN ds W (j + 1) = if j = W then eN ds j else fN ds W j := by
          unfold fN
          by_cases h : j = W
          · subst h; rw [if_neg (by omega), if_pos rfl]
          · rw [if_neg h]
            by_cases h2 : j ≤ W
            · rw [if_pos (by omega), if_pos h2]
            · rw [if_neg (by omega), if_neg h2]
        by_cases hjW : j = W
        · rw [if_pos hjW] at hfn
          have HFN := Lib.hid hfn
          clear hfn
          subst hjW
          go_wp2_with fail
          refine HP.out.mono ?_
          rintro e w3 ⟨v3, rfl, hl3, hw3⟩
          have hB3 := hbw.trans (hl3.below hbuf hbw.size)
          have hb3 := hl3.buf
          have HW3 := Lib.hid (hw3 HWM.out)
          clear hl3 HP hw3
          go_wp2_with fail
          go_roundg (n - (j + 1))
          case measure => have := HM.out; omega
          case rel =>
            refine ⟨j + 1, rfl, by omega, by go_num, by rw [HFN.out], ?_, HW3, by omega, Lib.hid ?_, hB3⟩
            · rw [HTK.out, recs_snoc, bys_app, hES]
              exact hb3
            · rw [HTK.out]
              intro d hd
              simp only [List.mem_append, List.mem_singleton] at hd
              rcases hd with hd | rfl
              · exact HD2.out d hd
              · omega
        · rw [if_neg hjW] at hfn
          have HFN := Lib.hid hfn
          have hjW' : ((j : Int) == (W : Int)) = false := by simp; omega
          clear hfn hjW
          go_wp2_with fail
          refine HP.out.mono ?_
          rintro e w3 ⟨v3, rfl, hl3, hw3⟩
          have hB3 := hbw.trans (hl3.below hbuf hbw.size)
          have hb3 := hl3.buf
          have HW3 := Lib.hid (hw3 HWM.out)
          clear hl3 HP hw3
          go_wp2_with fail
          go_roundg (n - (j + 1))
          case measure => have := HM.out; omega
          case rel =>
            refine ⟨j + 1, rfl, by omega, by go_num, by rw [HFN.out], ?_, HW3, by omega, Lib.hid ?_, hB3⟩
            · rw [HTK.out, recs_snoc, bys_app, hES]
              exact hb3
            · rw [HTK.out]
              intro d hd
              simp only [List.mem_append, List.mem_singleton] at hd
              rcases hd with hd | rfl
              · exact HD2.out d hd
              · omega
    · have hlt' : decide ((j : Int) < (n : Int)) = false := by simp; omega
      have HJN : Hid (j = n) := Lib.hid (by omega)
      have hdt : ds.take j = ds := List.take_of_length_le (by rw [HLN.out, HJN.out]; exact Nat.le_refl _)
      have HDD : Hid (∀ d ∈ ds, d.length ≤ 200) := Lib.hid (by have := HD2.out; rwa [hdt] at this)
      rw [hdt] at hbuf
      have hfn : fN ds W j = eN ds W := by unfold fN; rw [if_neg (by rw [HJN.out]; omega)]
      rw [hfn]
      have hFRs := eN_succ ds W HWD.out
      have hFRm := eN_mono ds (W + 1) j (by rw [HJN.out]; omega)
      clear hdt HD2 hfn
      obtain ⟨A5, c5, ev, hc5, hr5⟩ := hbuf.slice
      subst ev
      have hcm5 := hbuf.cap_le
      unfold maxLen at hcm5
      -- the record that is turned
      obtain ⟨Aj, cj, hvj, hrj, hdb, hjc, hjm⟩ := HR.out.each W _ (List.getElem?_eq_getElem HWD.out)
      have hrl := HR.out.rd.below hBw
      obtain ⟨g, off, u, rfl, hgB, hu, hcell⟩ := hrl.at_ (k := W) hW
      rw [hvj] at hu
      injection hu with hu
      subst hu
      have hdl200 := HDD.out _ (List.getElem_mem HWD.out)
      have HTP := Lib.hid (turn_parts ds W HWD.out b)
      have HTB := Lib.hid (turn_bad ds W HWD.out b hdl200)
      have HTA := Lib.hid (turn_ahead ds W HWD.out b)
      have HTE := Lib.hid (fun m ha hbad => @turn_end ds HDD.out W HWD.out m ha hbad)
      have hPL := tP_len ds W ds[W] b
      have hTL := tl_len ds[W] b
      have HTLB : Hid (∀ c ∈ tl ds[W] b, c < 256) := Lib.hid (by
        cases b
        · exact hdb
        · exact M.leB_lt _ _)
      clear hvj hrl hrj hdb
      have HRB : Hid (∀ c ∈ recs ds, c < 256) := Lib.hid (by
        intro c hc
        simp only [recs, List.mem_flatMap] at hc
        obtain ⟨d, hd, hc⟩ := hc
        obtain ⟨k, hk, rfl⟩ := List.getElem_of_mem hd
        obtain ⟨_, _, _, _, hdb, _⟩ := HR.out.each k _ (List.getElem?_eq_getElem hk)
        exact recB_lt _ hdb c hc)
      unfold maxLen at hjm
      generalize tP ds W ds[W] b = P at *
      generalize tl ds[W] b = l at *
      generalize tR ds W ds[W] b = R at *
      rw [HTP.out] at hbuf
      have HPB : Hid (∀ c ∈ P, c < 256) := Lib.hid (fun c hc => HRB.out c (by rw [HTP.out]; simp [hc]))
      have HRRB : Hid (∀ c ∈ R, c < 256) := Lib.hid (fun c hc => HRB.out c (by rw [HTP.out]; simp [hc]))
      obtain ⟨FR, HFR⟩ : ∃ FR, Hid (FR = eN ds W) := ⟨_, Lib.hid rfl⟩
      rw [← HFR.out] at hFRs hPL ⊢
      obtain ⟨TOT, HTOT⟩ : ∃ TOT, Hid (TOT = eN ds j) := ⟨_, Lib.hid rfl⟩
      rw [← HTOT.out] at hFRm hlen hbuf hc5 hr5 ⊢
      rw [hFRs] at hFRm
      have hpos : 0 < TOT := by omega
      obtain ⟨g5, o5, rfl, hg5, _⟩ := hr5.2 hpos
      obtain ⟨ho5, hcold⟩ := HWM.out g5 o5 _ _ rfl
      subst ho5
      have hg5' := (hbuf.lt g5 rfl).1
      have HCOLD := Lib.hid hcold
      generalize (ds[W]'HWD.out).length = dl at *
      clear hFRs hr5 HWM hcold HRB HTP
      cases b
      case' false =>
        obtain ⟨LO, hLO1, hLO2⟩ : ∃ LO, LO ≤ FR + 12 ∧ FR + 12 ≤ LO := ⟨_, Nat.le_refl _, Nat.le_refl _⟩
        have hPLO0 : P.length = FR + 12 := by rw [hPL]; rfl
        have hPLO : P.length = LO := by omega
        clear hPLO0
        have hTLN : l.length = dl := by rw [hTL]; rfl
        have Q1 : Hid ((FR : Int) + 12 = (LO : Int)) := Lib.hid (by omega)
        generalize dl = NL at *
        have hHIT : LO + NL ≤ TOT := by omega
        obtain ⟨HI, hHI1, hHI2⟩ : ∃ HI, HI ≤ LO + NL ∧ LO + NL ≤ HI := ⟨_, Nat.le_refl _, Nat.le_refl _⟩
        have Q2 : Hid ((LO : Int) + (NL : Int) = (HI : Int)) := Lib.hid (by omega)
        clear hPL hTL
        go_upto_region 25 with fail
        rw [Q1.out, Q2.out]
        rcases Nat.eq_zero_or_pos NL with hd0 | hd0
        · obtain rfl : HI = LO := by omega
          go_wp2_with fail
          go_ret
          exact ⟨rfl, hBw⟩
      case' true =>
        obtain ⟨LO, rfl⟩ : ∃ LO, FR = LO := ⟨_, rfl⟩
        have hPLO : P.length = FR := by rw [hPL]; rfl
        have hTL4 : l.length = 4 := by rw [hTL]; rfl
        obtain ⟨LO, hLO⟩ : ∃ LO, LO = FR := ⟨_, rfl⟩
        obtain rfl : LO = FR := hLO
        obtain ⟨NL, hNL1, hNL2⟩ : ∃ NL, NL ≤ 4 ∧ 4 ≤ NL := ⟨4, Nat.le_refl _, Nat.le_refl _⟩
        have hTLN : l.length = NL := by omega
        have hHIT : LO + NL ≤ TOT := by omega
        obtain ⟨HI, hHI1, hHI2⟩ : ∃ HI, HI ≤ LO + NL ∧ LO + NL ≤ HI := ⟨_, Nat.le_refl _, Nat.le_refl _⟩
        have Q2 : Hid ((LO : Int) + 4 = (HI : Int)) := Lib.hid (by omega)
        go_upto_region 25 with fail
        rw [Q2.out]
        have hd0 : 0 < NL := by omega
        clear hPL hTL hTL4
      all_goals
        have HPLO := Lib.hid hPLO
        have HTLN := Lib.hid hTLN
        clear hPLO hTLN
        have hlh : ((LO : Int) == (HI : Int)) = false := by simp; omega
        have hYb : (Y : Int) < 65536 := by have := HY.out; omega
        have htm2 : (Y : Int).tmod (8 * ((HI : Int) - (LO : Int))) = ((Y % (8 * NL) : Nat) : Int) := by
          rw [show (HI : Int) - (LO : Int) = (NL : Int) by omega, Int.tmod_eq_emod_of_nonneg (by omega), Int.natCast_emod, Int.natCast_mul]
          rfl
        have hT : Y % (8 * NL) < 8 * NL := Nat.mod_lt _ (by omega)
        generalize Y % (8 * NL) = T at *
        have hnz : ((8 * ((HI : Int) - (LO : Int))) == 0) = false := by simp; omega
        have hnz' : ¬ 8 * ((HI : Int) - (LO : Int)) = 0 := by omega
        obtain ⟨AT, hAT1, hAT2⟩ : ∃ AT, AT ≤ 8 * LO + T ∧ 8 * LO + T ≤ AT := ⟨_, Nat.le_refl _, Nat.le_refl _⟩
        have Q4 : Hid (8 * (LO : Int) + (T : Int) = (AT : Int)) := Lib.hid (by omega)
        have hATb : (AT : Int) < 8 * (HI : Int) := by omega
        go_wp2_with fail
        rw [Q4.out]
        go_loopg [19, 20] 32 (fun k tv i wr => ∃ (i0 : Nat) (s : List Nat), k = 32 - i0 ∧ i0 ≤ 32 ∧ i = .int .i64 (i0 : Int) ∧ tv = .bool (decide (N % 2 ^ i0 ≠ 0)) ∧ Below w1.heap.size w1 wr ∧ Buf wr w1.heap.size (.slice (some ⟨g5, 0, none⟩) TOT c5) TOT (bys (P ++ (s ++ R))) ∧ Hid (∀ o, wr.frozen? ⟨g5, o, none⟩ = false) ∧ Hid (∀ c ∈ s, c < 256) ∧ Hid (s.length = NL) ∧ Hid (num s = num l ^^^ 2 ^ T * (N % 2 ^ i0)))
        case atStart =>
          exact ⟨0, l, rfl, Nat.zero_le _, rfl, by simp [Nat.mod_one], hbw, hbuf, HCOLD, HTLB, HTLN, Lib.hid (by simp [Nat.mod_one])⟩
        case round =>
          clear hbw hbuf HCOLD hBw
          obtain ⟨i0, s, hk, hi32, rfl, rfl, hbw, hbuf, HCOLD, HSB, HSL, HNUM⟩ := hrel
          have hKK := Lib.hid hk
          clear hk
          have hfin := hb1.trans (hbw.mono hs1)
          have hwa2 : IntKind.i64.wrap ((AT : Int) + (i0 : Int)) = (AT : Int) + (i0 : Int) := by rw [IntWalk.i64_in _ (by omega)]
          have hwb2 : IntKind.i64.wrap (8 * (HI : Int)) = 8 * (HI : Int) := by rw [IntWalk.i64_in _ (by omega)]
          by_cases hin : i0 < 32 ∧ AT + i0 < 8 * HI
          · obtain ⟨hj32, hjn⟩ := hin
            have hj32' : (i0 : Int) < 32 := by omega
            have hjn' : (AT : Int) + (i0 : Int) < 8 * (HI : Int) := by omega
            generalize hdt : decide (N % 2 ^ i0 ≠ 0) = dt at *
            have HDT := Lib.hid hdt
            clear hdt
            go_upto_region 32 with fail
            have hbl : N / 2 ^ i0 % 2 = 0 ∨ N / 2 ^ i0 % 2 = 1 := by omega
            have hand : bits .and .u32 ((N : Int) / 2 ^ i0) 1 = ((N / 2 ^ i0 % 2 : Nat) : Int) := by
              have := u32_and_nat (N / 2 ^ i0) 1 (Nat.lt_of_le_of_lt (Nat.div_le_self _ _) (by have := HN.out; omega)) (by omega)
              rw [Nat.and_one_is_mod] at this
              rw [← this]
              simp
            generalize hbte : N / 2 ^ i0 % 2 = bt at *
            have HBT := Lib.hid hbte
            clear hbte
            rcases hbl with rfl | rfl
            · go_wp2_with fail
              go_roundg (32 - (i0 + 1))
              case measure => have := hKK.out; omega
              case rel =>
                refine ⟨i0 + 1, s, rfl, by omega, by go_num, ?_, hbw, hbuf, HCOLD, HSB, HSL, Lib.hid ?_⟩
                · rw [pat_same N i0 HBT.out, HDT.out]
                · rw [pat_same N i0 HBT.out]; exact HNUM.out
            · go_upto_region 33 with fail
              have hpl : (T + i0) / 8 < NL := by omega
              have hturn := Lib.hid (num_turn l s T N i0 HSB.out (by rw [HSL.out]; exact hpl) HNUM.out HBT.out)
              have hmp : s.getD ((T + i0) / 8) 0 < 256 := getD_lt HSB.out _
              have hgm := get_mid P s R ((T + i0) / 8) (by rw [HSL.out]; exact hpl)
              have hsm := fun z => set_mid P s R ((T + i0) / 8) z (by rw [HSL.out]; exact hpl)
              rw [HPLO.out] at hgm
              simp only [HPLO.out] at hsm
              have hPp : LO + (T + i0) / 8 < TOT := by omega
              have hlm : (P ++ (s ++ R)).length = TOT := by have := hbuf.1; rwa [bys_len] at this
              have hcell2 : wr.cell? ⟨g5, LO + (T + i0) / 8, none⟩ = some (.int .u8 ((s.getD ((T + i0) / 8) 0 : Nat) : Int)) := by
                have := bys_get (P ++ (s ++ R)) (LO + (T + i0) / 8) (by rw [hlm]; exact hPp)
                rw [hgm] at this
                exact hbuf.cellAt _ _ this
              have hcold2 := HCOLD.out (LO + (T + i0) / 8)
              have hr8 : (T + i0) % 8 < 8 := Nat.mod_lt _ (by decide)
              have hy : 2 ^ ((T + i0) % 8) < 256 := Nat.pow_lt_pow_right (a := 2) (by decide) hr8
              have q5 : ((AT : Int) + (i0 : Int)) / 8 = ((LO + (T + i0) / 8 : Nat) : Int) := by omega
              have q6 : ((AT : Int) + (i0 : Int)) % 8 = (((T + i0) % 8 : Nat) : Int) := by omega
              have q7 : ((AT : Int) + (i0 : Int)).tdiv 8 = ((LO + (T + i0) / 8 : Nat) : Int) := by rw [Int.tdiv_eq_ediv_of_nonneg (by omega)]; omega
              have q8 : ((AT : Int) + (i0 : Int)).tmod 8 = (((T + i0) % 8 : Nat) : Int) := by rw [Int.tmod_eq_emod_of_nonneg (by omega)]; omega
              have hpow : ((2 : Int) ^ ((T + i0) % 8)) = ((2 ^ ((T + i0) % 8) : Nat) : Int) := by simp
              generalize (T + i0) / 8 = qq at *
              generalize (T + i0) % 8 = rr at *
              have hwy : IntKind.u8.wrap ((2 : Int) ^ rr) = ((2 ^ rr : Nat) : Int) := by
                rw [hpow]
                generalize 2 ^ rr = y at hy ⊢
                rw [IntWalk.u8_in _ (by omega)]
              have hxor := u8_xor_nat (s.getD qq 0) (2 ^ rr) hmp hy
              have hnl := Nat.xor_lt_two_pow (n := 8) hmp hy
              generalize s.getD qq 0 ^^^ 2 ^ rr = z at *
              generalize 2 ^ rr = y at *
              generalize s.getD qq 0 = mp at *
              have st1 := hbuf.stored (LO + qq) hPp (.int .u8 (z : Int))
              have hst : (bys (P ++ (s ++ R))).set (LO + qq) (.int .u8 (z : Int)) = bys (P ++ (s.set qq z ++ R)) := by rw [← hsm z, bys, bys, List.map_set]
              rw [hst] at st1
              have hbw2 := hbw.setCell (p := ⟨g5, LO + qq, none⟩) hg5' (.int .u8 (z : Int))
              have HSB2 := Lib.hid (set_lt s qq z HSB.out hnl)
              have HSL2 : Hid ((s.set qq z).length = NL) := Lib.hid (by rw [List.length_set, HSL.out])
              have HCOLD2 : Hid (∀ o, (wr.setCell ⟨g5, LO + qq, none⟩ (.int .u8 (z : Int))).frozen? ⟨g5, o, none⟩ = false) := Lib.hid (fun o => by rw [World.frozen?_setCell]; exact HCOLD.out o)
              obtain ⟨pp, hpp⟩ : ∃ pp, pp = LO + qq := ⟨_, rfl⟩
              rw [← hpp] at hcell2 hcold2 q5 q7 st1 hbw2 HCOLD2 hPp
              have hpn : (pp : Int) < (TOT : Int) := by omega
              clear hpow hst hnl hmp hy hgm hsm hlm hbuf hbw hpp
              go_wp2_with fail
              go_roundg (32 - (i0 + 1))
              case measure => have := hKK.out; omega
              case rel =>
                refine ⟨i0 + 1, s.set qq z, rfl, by omega, by go_num, ?_, hbw2, st1, HCOLD2, HSB2, HSL2, hturn⟩
                rw [decide_eq_true (pat_ne N i0 HBT.out)]
          · by_cases hF : N % 2 ^ i0 = 0
            · rw [decide_eq_false (by simpa using hF)]
              by_cases hj32 : (i0 : Int) < 32
              · have hjn : ¬ ((AT : Int) + (i0 : Int) < 8 * (HI : Int)) := by omega
                have hjn' : 8 * (HI : Int) ≤ (AT : Int) + (i0 : Int) := by omega
                go_wp2_with fail
                go_ret
                exact ⟨rfl, hfin⟩
              · have hj32' : decide ((i0 : Int) < 32) = false := by simpa using hj32
                go_wp2_with fail
                go_ret
                exact ⟨rfl, hfin⟩
            · rw [decide_eq_true hF]
              have hck : ck s ≠ ck l := ck_ne s l HSB.out HTLB.out (burst_ne l s T (N % 2 ^ i0) HTLB.out HSB.out (by rw [HSL.out, HTLN.out]) (by rw [HTLN.out]; omega) (Nat.lt_of_le_of_lt (Nat.mod_le _ _) (by have := HN.out; omega)) hF HNUM.out)
              have hbad := HTB.out s (by rw [HSL.out, HTLN.out]) hck
              have HEND := Lib.hid (fun (es : List (List Nat)) (a : Nat) (h1 : Chain (P ++ (s ++ R)) es a) h2 => HTE.out (P ++ (s ++ R)) (HTA.out (s ++ R)) hbad h1 h2)
              have hmb : ∀ c ∈ P ++ (s ++ R), c < 256 := by
                intro c hc
                simp only [List.mem_append] at hc
                rcases hc with hc | hc | hc
                · exact HPB.out c hc
                · exact HSB.out c hc
                · exact HRRB.out c hc
              obtain ⟨_, _, e9, _, hr9⟩ := hbuf.slice
              injection e9 with e91 e92 e93
              subst e91; subst e93
              have HALL := Lib.hid (all_any (some ⟨g5, 0, none⟩) TOT c5 _ wr hr9 hmb (by omega) hc5 (by unfold maxLen; omega) (HT.out.below hfin HT.out.1))
              clear hbad hmb hr9 hck hbuf
              generalize P ++ (s ++ R) = m at *
              by_cases hj32 : (i0 : Int) < 32
              · have hjn : ¬ ((AT : Int) + (i0 : Int) < 8 * (HI : Int)) := by omega
                have hjn' : 8 * (HI : Int) ≤ (AT : Int) + (i0 : Int) := by omega
                go_wp2_with fail
                refine HALL.out.mono ?_
                rintro e w6 ⟨v6, vs6, es, a, rfl, hch, hE6, hbuf6, hels, hb6⟩
                obtain ⟨r1, r2, r3⟩ := HEND.out es a hch hE6
                have hvl : vs6.length = W := by rw [hels.len, r1]
                rw [hvl] at hbuf6
                obtain ⟨A6, c6, ev6, _, _⟩ := hbuf6.slice
                subst ev6
                rw [r3, if_neg (by decide), r2, ← HFR.out]
                have hfin6 := hfin.trans (hb6.mono hfin.size)
                clear hels hbuf6 hE6 r1 r2 r3 HALL HEND hvl
                go_wp2_with fail
                go_ret
                exact ⟨rfl, hfin6⟩
              · have hj32' : decide ((i0 : Int) < 32) = false := by simpa using hj32
                go_wp2_with fail
                refine HALL.out.mono ?_
                rintro e w6 ⟨v6, vs6, es, a, rfl, hch, hE6, hbuf6, hels, hb6⟩
                obtain ⟨r1, r2, r3⟩ := HEND.out es a hch hE6
                have hvl : vs6.length = W := by rw [hels.len, r1]
                rw [hvl] at hbuf6
                obtain ⟨A6, c6, ev6, _, _⟩ := hbuf6.slice
                subst ev6
                rw [r3, if_neg (by decide), r2, ← HFR.out]
                have hfin6 := hfin.trans (hb6.mono hfin.size)
                clear hels hbuf6 hE6 r1 r2 r3 HALL HEND hvl
                go_wp2_with fail
                go_ret
                exact ⟨rfl, hfin6⟩
end Go.Proofs.YtahbhaphodgomabDoor
