/- The walk of RecordAlls. -/
import Derived.Test.YtahbhaphodgomabDoorAlsM
namespace Go.Proofs.YtahbhaphodgomabDoor
set_option linter.unusedSimpArgs false
set_option linter.unusedVariables false
open Go.RowKit

theorem Tryd.info3 : (Tryd.prog.info? 3).map (fun i => (i.zero, i.size, i.bytes)) = some (some (.int .i64 0), 1, 8) := by kernel_rfl

theorem i64_and16 (n : Int) : bits .and .i64 n 65535 = n % 65536 := by
  have h63 : (BitVec.ofInt 64 65535).toNat = 2 ^ 16 - 1 := by decide
  have key : (BitVec.ofInt 64 n &&& BitVec.ofInt 64 65535).toNat = (n % ((2 ^ 64 : Nat) : Int)).toNat % 2 ^ 16 := by
    rw [BitVec.toNat_and, BitVec.toNat_ofInt, h63, Nat.and_two_pow_sub_one_eq_mod]
  show IntKind.i64.wrap ((BitVec.ofInt 64 n &&& BitVec.ofInt 64 65535).toNat : Nat) = n % 65536
  rw [key, IntKind.wrap_i64]
  omega

set_option maxHeartbeats 1000000 in
theorem alls_early (A : Option Addr) (n c : Nat) (cut : Int) (w : World) (ht : TabAt w) (h : (12 : Int) < (n : Int)) :
    Calls Tryd.prog 5 #[.slice A n c, .int .i64 cut] w fun e w' => e = .returned (.bool true) ∧ Below w.heap.size w w' := by
  have HT := Lib.hid ht
  clear ht
  go_enter Tryd.func5, Tryd.ntmps5
  go_wp2_with fail
  refine (head_any _ HT.out).mono ?_
  rintro e w1 ⟨rfl, hb1⟩
  go_wp2_with fail
  go_ret
  exact ⟨rfl, hb1⟩

set_option maxHeartbeats 2000000 in
set_option maxRecDepth 100000 in
theorem alls_walk (A : Option Addr) (n c : Nat) (vs : List Value) (ds : List (List Nat)) (cut : Int) (w : World) (hr : RdL w A n vs ds) (ht : TabAt w) (hn : (n : Int) ≤ 12) (hcut : -9223372036854775808 ≤ cut ∧ cut ≤ 9223372036854775807) :
    Calls Tryd.prog 5 #[.slice A n c, .int .i64 cut] w fun e w' => e = .returned (.bool true) ∧ Below w.heap.size w w' := by
  obtain ⟨i0, hi, hz0, hz1, hz2⟩ := info_parts Tryd.info5
  obtain ⟨j0, hj, hy0, hy1, hy2⟩ := info_parts Tryd.info3
  obtain ⟨K, hK, hKe⟩ : ∃ K : Nat, K < 65536 ∧ bits .and .i64 cut 65535 = (K : Int) := ⟨(cut % 65536).toNat, by omega, by rw [i64_and16]; omega⟩
  have hLN := hr.len
  have HLN := Lib.hid hLN
  have HT := Lib.hid ht
  have HR := Lib.hid hr
  have hd12 : decide ((12 : Int) < (n : Int)) = false := by simp; omega
  clear ht hr hLN
  go_enter Tryd.func5, Tryd.ntmps5
  go_wp2_with fail
  refine (head_any _ HT.out).mono ?_
  rintro e w1 ⟨rfl, hb1⟩
  have hs1 := hb1.size
  have hbA := (Buf.new w1 w1.heap.size 5 #[] (0, 0) (Nat.le_refl _) (by unfold maxLen; simp)).alloc (.cells #[.int .i64 0] 3)
  have hbE := Buf.new (w1.alloc (.cells #[] 5)) w1.heap.size 3 #[.int .i64 0] (0, 0) (by rw [World.size_alloc]; omega) (by unfold maxLen; simp)
  have hba : Below w1.heap.size w1 ((w1.alloc (.cells #[] 5)).alloc (.cells #[.int .i64 0] 3)) := ((Below.refl _ _).alloc (Nat.le_refl _) _).alloc (by rw [World.size_alloc]; omega) _
  go_wp2_with fail
  go_loopg [5, 6, 25] n (fun m b e i wr => ∃ j : Nat, m = n - j ∧ j ≤ n ∧ i = .int .i64 (j : Int) ∧ Buf wr w1.heap.size b (eN ds j) (bys (recs (ds.take j))) ∧ Buf wr w1.heap.size e (j + 1) (endsL ds j) ∧ Hid (Apart b e) ∧ eN ds j ≤ 212 * j ∧ Hid (∀ d ∈ ds.take j, d.length ≤ 200) ∧ Below w1.heap.size w1 wr)
  case atStart =>
    refine ⟨0, rfl, by omega, rfl, by simpa [recs, bys, eN] using hbA, by rw [endsL_zero]; rw [World.size_alloc] at hbE; exact hbE, Lib.hid ?_, by rw [eN_zero]; omega, Lib.hid (by simp), hba⟩
    intro k hk hk'
    simp [Value.ownBlock] at hk hk'
    omega
  case round =>
    obtain ⟨j, hm, hj', rfl, hbuf, hbe, HAP, hlen, HD2, hbw⟩ := hrel
    have HM := Lib.hid hm
    clear hm
    have hBw := hb1.trans (hbw.mono hs1)
    by_cases hlt : j < n
    · have hlt' : (j : Int) < (n : Int) := by omega
      have hjd : j < ds.length := by rw [HLN.out]; exact hlt
      obtain ⟨Aj, cj, hvj, hrj, hdb, hjc, hjm⟩ := HR.out.each j _ (List.getElem?_eq_getElem hjd)
      have hrl := HR.out.rd.below hBw
      obtain ⟨g, off, u, rfl, hgB, hu, hcell⟩ := hrl.at_ (k := j) hlt
      rw [hvj] at hu
      injection hu with hu
      subst hu
      have hrj := hrj.below hBw
      have hES := eN_succ ds j hjd
      have HTK : Hid (ds.take (j + 1) = ds.take j ++ [ds[j]]) := Lib.hid (List.take_succ_eq_append_getElem hjd)
      have HDB := Lib.hid hdb
      generalize ds[j] = dj at *
      clear hdb hvj hrl
      unfold maxLen at hjm
      by_cases h200 : (200 : Int) < (dj.length : Int)
      · go_wp2_with fail
        go_ret
        exact ⟨rfl, hBw⟩
      · have h200' : decide ((200 : Int) < (dj.length : Int)) = false := by simp; omega
        have hap : ∀ g' off', Aj = some ⟨g', off', none⟩ → 0 < dj.length → u5.ownBlock ≠ some g' := by
          intro g' off' e hL hv
          obtain ⟨g2, o2, e2, hg2, _⟩ := hrj.2 hL
          rw [e] at e2
          injection e2 with e2
          injection e2 with e3
          have := (hbuf.lt g' hv).1
          omega
        have HP := Lib.hid (put_any Aj dj.length cj dj wr w1.heap.size hbuf (by omega) hbw.size (hrj.up hBw.size) HDB.out (by omega) hap (HT.out.below hBw HT.out.1))
        clear hap hrj
        go_wp2_with fail
        refine HP.out.mono ?_
        rintro e w3 ⟨v3, rfl, hl3⟩
        have hB3 := hbw.trans (hl3.below hbuf hbw.size)
        have hoe := hl3.other hbe HAP.out
        have hbe3 := hoe.1
        have hs3 := hB3.size
        have HAP3 := Lib.hid hoe.2
        have hb3 := hl3.buf
        clear hoe hl3 HP
        obtain ⟨A3, c3, ev, _, _⟩ := hb3.slice
        subst ev
        go_wp2_with (at_builtin; refine wpList_append_one _ rfl (.tmp 41) (.tmp 44) 37 rfl w1.heap.size 3 j0 (.int .i64 0) 8 Tryd.underlying37 hj hy0 hy1 hy2 rfl rfl hbe3 rfl rfl ?b1 ?b2 hs3 ?next)
        case b1 => unfold maxLen; omega
        case b2 => omega
        case next =>
          intro v4 w4 r1 r2 r3
          have hB4 := hB3.grown r2 hs3 (fun k hk => (hbe3.lt k hk).1)
          have hlaid : Laid w3 w1.heap.size u6 w4 v4 _ _ := ⟨r1, r2, r3⟩
          have hoe := hlaid.other hb3 HAP3.out.symm
          have hb4 := hoe.1
          have HAP4 := Lib.hid hoe.2.symm
          clear hoe hlaid r2 r3
          go_wp2_with fail
          go_roundg (n - (j + 1))
          case measure => have := HM.out; omega
          case rel =>
            refine ⟨j + 1, rfl, by omega, by go_num, ?_, ?_, HAP4, by omega, Lib.hid ?_, hB4⟩
            · rw [HTK.out, recs_snoc, bys_app, hES]
              exact hb4
            · rw [endsL_succ, hES]
              exact r1
            · rw [HTK.out]
              intro d hd
              simp only [List.mem_append, List.mem_singleton] at hd
              rcases hd with hd | rfl
              · exact HD2.out d hd
              · omega
    · have hlt' : decide ((j : Int) < (n : Int)) = false := by simp; omega
      have HJN : Hid (j = n) := Lib.hid (by omega)
      have hdt : ds.take j = ds := List.take_of_length_le (by rw [HLN.out, HJN.out]; exact Nat.le_refl _)
      have HDD : Hid (∀ d ∈ ds, d.length ≤ 200) := Lib.hid (by have := HD2.out; rwa [hdt] at this)
      rw [hdt] at hbuf
      clear hdt HD2
      obtain ⟨A5, c5, ev, hc5, hr5⟩ := hbuf.slice
      subst ev
      have hcm5 := hbuf.cap_le
      obtain ⟨q, hqe, hq⟩ : ∃ q : Nat, (K : Int) % ((eN ds j : Int) + 1) = (q : Int) ∧ q ≤ eN ds j := ⟨K % (eN ds j + 1), by simp, Nat.le_of_lt_succ (Nat.mod_lt K (Nat.succ_pos _))⟩
      have hsl := fun wx => run_slice_h (P := Tryd.prog) wx 22 5 i0 Tryd.underlying22 hi hz1 A5 (eN ds j) c5 q (by omega) .i64 (q : Int) rfl
      have hrt := hr5.take q hq
      rw [← bys_take] at hrt
      have HDM : Hid (∀ d ∈ ds, d.length ≤ 1048576) := Lib.hid fun d hd => by have := HDD.out d hd; omega
      have HBB : Hid (∀ c ∈ (recs ds).take q, c < 256) := Lib.hid (by
        intro c hc
        have hc := List.mem_of_mem_take hc
        unfold recs at hc
        obtain ⟨d, hd, hcd⟩ := List.mem_flatMap.1 hc
        obtain ⟨k, hk, rfl⟩ := List.mem_iff_getElem.1 hd
        obtain ⟨_, _, _, _, hb, _⟩ := HR.out.each k _ (List.getElem?_eq_getElem hk)
        exact recB_lt _ hb c hcd)
      have HALL := Lib.hid (all_any A5 q c5 ((recs ds).take q) wr hrt HBB.out (by omega) (by omega) hcm5 (HT.out.below hBw HT.out.1))
      unfold maxLen at hcm5
      clear hrt hr5 hbuf HAP
      go_wp2_with fail
      refine HALL.out.mono ?_
      rintro e w2 ⟨v2, us, es, a, rfl, hch, hE, hbufG, hels, hb2⟩
      have hbe2 := hbe.below hb2 (fun k hk => (hbe.lt k hk).2)
      have hB2 := hBw.trans (hb2.mono hBw.size)
      obtain ⟨h8, hend⟩ := chain_end ds HDM.out q hch hE
      obtain ⟨d1, d2, d3, d4⟩ := chain_det ds HDM.out q hch
      rw [h8]
      have hul : us.length ≤ n := by rw [hels.len, ← HLN.out]; exact d1
      have HEND : Hid (us.length = n ∨ q < eN ds (us.length + 1)) := Lib.hid (by rw [hels.len, ← HLN.out]; exact hend)
      have HEL : Hid (∀ t, t < us.length → ∃ (h1 : t < es.length) (h2 : t < ds.length), es[t] = ds[t]) := Lib.hid (by
        intro t ht
        rw [hels.len] at ht
        refine ⟨ht, by omega, ?_⟩
        have : es[t]? = (ds.take es.length)[t]? := by rw [← d2]
        rw [List.getElem?_take_of_lt ht, List.getElem?_eq_getElem ht, List.getElem?_eq_getElem (by omega)] at this
        exact Option.some.inj this)
      have hA : a = eN ds us.length := by rw [hels.len]; exact d3
      subst hA
      have hHELS := Lib.hid hels
      obtain ⟨A2, c2, ev, hc2, hr2⟩ := hbufG.slice
      subst ev
      have hcm2 := hbufG.cap_le
      obtain ⟨Ae, ce, ev, hce, hre⟩ := hbe2.slice
      subst ev
      obtain ⟨L, hL⟩ : ∃ L, L = j + 1 := ⟨_, rfl⟩
      rw [← hL] at hre hce
      rw [show (j + 1) = L from hL.symm]
      have HL := Lib.hid hL
      clear hL
      clear hels d1 d2 d3 h8 hend hE hch HALL hbe hBw hb2 hbw hbufG hbe2
      go_wp2_with fail
      go_loopg [14] us.length (fun m k wr => ∃ i : Nat, m = us.length - i ∧ i ≤ us.length ∧ k = .int .i64 (i : Int) ∧ wr = w2)
      case atStart => exact ⟨0, rfl, by omega, rfl, rfl⟩
      case round =>
        obtain ⟨i, hm, hi', rfl, hww⟩ := hrel
        have hww := hww.symm
        subst hww
        have HM2 := Lib.hid hm
        clear hm
        have hLj := HL.out
        by_cases hlt2 : i < us.length
        · have hlt2' : (i : Int) + 1 < (L : Int) := by omega
          have hec : ((eN ds (i + 1) : Nat) : Int) ≤ (q : Int) := by have := eN_mono ds (i + 1) us.length (by omega); omega
          obtain ⟨g, off, u, rfl, hgB, hu, hcell⟩ := hre.at_ (k := i + 1) (by omega)
          rw [endsL_at ds j (i + 1) (by omega)] at hu
          injection hu with hu
          subst hu
          clear hLj
          generalize eN ds (i + 1) = E1 at *
          go_wp2_with fail
          go_roundg (us.length - (i + 1))
          case measure => have := HM2.out; omega
          case rel => exact ⟨i + 1, rfl, by omega, by go_num, rfl⟩
        · have HIU : Hid (i = us.length) := Lib.hid (by omega)
          obtain ⟨g, off, u, rfl, hgB, hu, hcell⟩ := hre.at_ (k := i) (by omega)
          rw [endsL_at ds j i (by omega), HIU.out] at hu
          injection hu with hu
          subst hu
          have hiL : i < L := by omega
          have hiL' : (i : Int) < (L : Int) := by omega
          have hneq : ((us.length : Int) != (i : Int)) = false := by have := HIU.out; simp; omega
          have hcond : (decide ((i : Int) + 1 < (L : Int)) = false) ∨ ((i : Int) + 1 < (L : Int) ∧ ¬ eN ds (i + 1) ≤ q ∧ w2.cell? ⟨g, off + (i + 1), none⟩ = some (.int .i64 ((eN ds (i + 1) : Nat) : Int))) := by
            have h1 := HIU.out
            have h2 := HJN.out
            by_cases hx : us.length = n
            · left; simp; omega
            · right
              refine ⟨by omega, ?_, ?_⟩
              · rcases HEND.out with h | h
                · exact absurd h hx
                · rw [h1]; omega
              · obtain ⟨g', off', u', e', _, hu', hcell'⟩ := hre.at_ (k := i + 1) (by omega)
                injection e' with e'
                injection e' with e1 e2
                subst e1; subst e2
                rw [endsL_at ds j (i + 1) (by omega)] at hu'
                injection hu' with hu'
                rw [hu']
                exact hcell'
          clear hLj
          generalize eN ds (i + 1) = E1 at *
          generalize eN ds us.length = E0 at *
          rcases hcond with hc1 | ⟨hc1, hc2', hc3⟩
          all_goals
            go_wp2_with fail
            go_loopg [95] us.length (fun m k wy => ∃ t : Nat, m = us.length - t ∧ t ≤ us.length ∧ k = .int .i64 (t : Int) ∧ Below w2.heap.size w2 wy)
            case atStart => exact ⟨0, rfl, by omega, rfl, Below.refl _ _⟩
            case round =>
              obtain ⟨t, hm, ht', rfl, hbz⟩ := hrel
              have HM3 := Lib.hid hm
              clear hm
              have hBz := hB2.trans (hbz.mono hB2.size)
              by_cases hlt3 : t < us.length
              · have hlt3' : (t : Int) < (us.length : Int) := by omega
                have hltn : (t : Int) < (n : Int) := by omega
                obtain ⟨h1, h2, hee⟩ := HEL.out t hlt3
                obtain ⟨At, ct, hvt, hrt⟩ := hHELS.out.at_ hbz (Nat.le_refl _) t h1
                obtain ⟨g1, off1, u1, rfl, hg1, hu1, hcell1⟩ := (hr2.below hbz).at_ (k := t) hlt3
                rw [hvt] at hu1
                injection hu1 with hu1
                subst hu1
                obtain ⟨Bt, dt, hwt, hsr, _, _, _⟩ := HR.out.each t _ (List.getElem?_eq_getElem h2)
                obtain ⟨g2, off2, u2, rfl, hg2, hu2, hcell2⟩ := (HR.out.rd.below hBz).at_ (k := t) (by omega)
                rw [hwt] at hu2
                injection hu2 with hu2
                subst hu2
                rw [hee] at hrt hcell1
                have hsr := hsr.below hBz
                generalize ds[t] = dd at *
                have cv1 := fun q => run_conv (P := Tryd.prog) ct (hrt.drewN q) 22 9 5 Tryd.underlying22 Tryd.underlying5 Tryd.underlying9
                have cv2 := fun q => run_conv (P := Tryd.prog) dt (hsr.drewN q) 22 9 5 Tryd.underlying22 Tryd.underlying5 Tryd.underlying9
                have hsame := strB_same dd
                generalize strB dd = T at *
                clear hrt hsr hvt hwt hee
                go_upto_region 28 with fail
                go_quiet (fail)
                go_wp2
                go_roundg (us.length - (t + 1))
                case measure => have := HM3.out; omega
                case rel => exact ⟨t + 1, rfl, by omega, by go_num, Below.drewN' hbz _⟩
              · have hlt3' : decide ((t : Int) < (us.length : Int)) = false := by simp; omega
                go_wp2_with fail
                go_ret
                exact ⟨rfl, hBz⟩
end Go.Proofs.YtahbhaphodgomabDoor
