/- The walk of BloomMakes. -/
import Derived.Test.YtajgmadohhagkaaDoorC7
namespace Go.Proofs.YtajgmadohhagkaaDoor
set_option linter.unusedSimpArgs false
set_option linter.unusedVariables false
open Go.RowKit

theorem bit_all : ∀ c, c < 256 → ∀ m, m < 8 → (c / 2 ^ m % 2 = 0 → c + 2 ^ m = c ||| 2 ^ m ∧ c + 2 ^ m < 256) ∧ (c / 2 ^ m % 2 ≠ 0 → c ||| 2 ^ m = c) := by decide +kernel
theorem getD_bys (F : List Nat) (q : Nat) (h : q < F.length) : (bys F)[q]? = some (.int .u8 ((F.getD q 0 : Nat) : Int)) := bys_get F q h

theorem set_same (E : List Nat) (q cc : Nat) (h : E.getD q 0 = cc) (hq : q < E.length) : E.set q cc = E := by
  subst h
  have : E.getD q 0 = E[q] := by simp [List.getD, hq]
  rw [this, List.set_getElem_self]

set_option maxHeartbeats 2000000 in
set_option maxRecDepth 100000 in
theorem makes_walk (A : Option Addr) (c : Nat) (L : List (List Nat)) (w : World) (hr : Rd w w.heap.size A L.length (strs L)) (hf : ∀ s ∈ L, (∀ x ∈ s, x < 256) ∧ s.length ≤ maxLen) (hlen : L.length ≤ maxLen) (ht : TabAt w) :
    Calls Tryd.prog 3 #[.slice A L.length c] w fun e w' => e = .returned (.bool true) ∧ Below w.heap.size w w' := by
  obtain ⟨i5, hi5, hy0, hy1, hy2⟩ := info_parts Tryd.info5
  have HBIG := Lib.hid (fun W (hb : Below w.heap.size w W) => big_any A c L W ((hr.below hb).up hb.size) hf hlen)
  have HT := Lib.hid ht
  have HR := Lib.hid hr
  have HS := Lib.hid hf
  have hlen' : (L.length : Int) ≤ 9223372036854775807 := by unfold maxLen at hlen; omega
  obtain ⟨bg, hbg⟩ : ∃ bg, bg = bigS L := ⟨_, rfl⟩
  rw [← hbg] at HBIG
  have HBG := Lib.hid hbg
  clear hr hf hlen ht hbg
  obtain ⟨N, hN⟩ : ∃ N, N = L.length := ⟨_, rfl⟩
  rw [← hN] at HBIG hlen' ⊢
  have HN := Lib.hid hN
  clear hN
  go_enter Tryd.func3, Tryd.ntmps3
  go_upto_region 3 with (go_at_call 8; refine (head_any _ HT.out).mono ?_; rintro e w1 ⟨rfl, hb1⟩)
  have HB1 := Lib.hid hb1
  have s1 := hb1.size
  clear hb1
  go_wp2_with fail
  refine (HBIG.out _ HB1.out).mono ?_
  rintro e w2 ⟨rfl, rfl⟩
  clear HBIG
  cases bg with
  | true =>
    go_wp2
    go_ret
    exact ⟨rfl, HB1.out⟩
  | false =>
    have hno := bigS_no L HBG.out.symm
    have h60 : (N : Int) ≤ 60 := by have := hno.1; have := HN.out; omega
    have HS2 := Lib.hid (fun s (h : s ∈ L) => (⟨(HS.out s h).1, Nat.le_trans (hno.2 s h) (by decide)⟩ : (∀ x ∈ s, x < 256) ∧ s.length ≤ 1000000000))
    have HS3 := Lib.hid (fun s (h : s ∈ L) => (HS.out s h).1)
    clear hno HBG
    obtain ⟨n, hn⟩ : ∃ n, n = fsz N := ⟨_, rfl⟩
    have hnp := fsz_pos N
    have hfz : (fsz N : Int) ≤ 100 := by unfold fsz; omega
    have HFU : Hid (fsz N = max 8 ((10 * N + 7) / 8)) := Lib.hid rfl
    have HM1 := Lib.hid (make_any A c L w1 ((HR.out.below HB1.out).up s1) HS2.out (by have := HN.out; omega) (HT.out.below HB1.out HT.out.1))
    rw [← HN.out] at HM1
    rw [← hn] at HM1 hnp hfz HFU
    clear hn
    have HLF : Hid ((mkF n L).length = n ∧ ∀ x ∈ mkF n L, x < 256) := Lib.hid ⟨mkF_len _ _, mkF_lt _ _⟩
    obtain ⟨F, hF⟩ : ∃ F, F = mkF n L := ⟨_, rfl⟩
    rw [← hF] at HM1 HLF
    have HFE := Lib.hid hF
    clear hF
    have HFS : Hid (flt F = .agg #[.string (strB F)]) := Lib.hid rfl
    rw [HFS.out] at HM1
    have HBY := Lib.hid (fun W => bytes_any F HLF.out.2 (by rw [HLF.out.1]; omega) W)
    have HBYA := Lib.hid (fun W => bytes_all F HLF.out.2 (by rw [HLF.out.1]; omega) W)
    rw [HFS.out] at HBY HBYA
    have HPV : Hid (prsV (6 :: F) = .tuple #[flt F, .int .i64 0]) := Lib.hid (by
      have : prs (6 :: F) = true := by
        have h8 : 8 ≤ n := by have := HFU.out; omega
        have := HLF.out.1
        simp [prs]
        omega
      unfold prsV
      rw [this]
      rfl)
    obtain ⟨FS, hFS⟩ : ∃ FS, FS = strB F := ⟨_, rfl⟩
    rw [← hFS] at HM1 HBY HBYA HFS
    have HFSE := Lib.hid hFS
    clear hFS
    go_wp2_with fail
    refine HM1.out.mono ?_
    rintro e w2 ⟨rfl, hb2⟩
    have HB2 := Lib.hid (HB1.out.trans (hb2.mono s1))
    have s2 := HB2.out.size
    clear hb2 HM1
    go_upto_region 6 with fail
    obtain ⟨w4, hw4⟩ : ∃ w4, w4 = w2.alloc (.cells #[.string FS] 26) := ⟨_, rfl⟩
    rw [← hw4]
    have HB4 : Hid (Below w.heap.size w w4) := by rw [hw4]; exact Lib.hid (HB2.out.alloc s2 _)
    obtain ⟨gf, hgf⟩ : ∃ gf, gf = w2.heap.size := ⟨_, rfl⟩
    have cf4 : w4.cell? ⟨gf, 0, none⟩ = some (.string FS) := by rw [hw4, hgf, World.cell?_alloc_mark]; rfl
    rw [← hgf]
    have HCF4 := Lib.hid cf4
    have z4 : gf < w4.heap.size := World.block_lt_of_cell? _ _ cf4
    clear hw4 hgf cf4 HB2
    go_upto_region 7 with fail
    go_loop [5] (fun v5 => ∃ m : Nat, 8 ≤ m ∧ m ≤ n ∧ v5 = .int .i64 (m : Int)) (fun v5 => n - (intOf v5).toNat)
    case atStart => exact ⟨8, Nat.le_refl _, by have := HFU.out; omega, rfl⟩
    case round =>
      obtain ⟨m, hm8, hmn, rfl⟩ := hrel
      by_cases hlt : 8 * m < 10 * N
      · have hlt' : 8 * (m : Int) < 10 * (N : Int) := by omega
        go_wp2
        go_round
        case measure => simp [intOf]; have := HFU.out; omega
        case rel => exact ⟨m + 1, by omega, by have := HFU.out; omega, by go_num⟩
      · have hlt' : 10 * (N : Int) ≤ 8 * (m : Int) := by omega
        obtain rfl : m = n := by have := HFU.out; omega
        have km := make5 hi5 hy0 hy1 hy2 m (by omega) w4
        go_upto_region 10 with fail
        obtain ⟨b, hb⟩ : ∃ b, b = w4.heap.size := ⟨_, rfl⟩
        have e0 : mkF m (L.take 0) = List.replicate m 0 := by simp [mkF]
        have X0 : (w4.alloc (.cells (bys (List.replicate m 0)).toArray 5)).ownsRow b 5 1 (.slice (some ⟨b, 0, none⟩) m m) m (bys (mkF m (L.take 0))) := by
          rw [e0, hb]
          exact World.ownsRow_lit (e := 5) (size := 1) w4 (bys (List.replicate m 0)).toArray m (Nat.le_refl _) (by unfold maxLen; omega) (by simp [bys_len])
        have Y0 : Below b w4 (w4.alloc (.cells (bys (List.replicate m 0)).toArray 5)) := by rw [hb]; exact (Below.refl _ _).alloc (Nat.le_refl _) _
        have HX0 := Lib.hid X0
        have HY0 := Lib.hid Y0
        rw [← hb]
        have sb : w.heap.size ≤ b := by rw [hb]; exact HB4.out.size
        have HBE := Lib.hid hb
        rw [← hb] at z4
        clear X0 Y0 hb km e0
        generalize w4.alloc (.cells (bys (List.replicate m 0)).toArray 5) = w5 at *
        go_upto_region 11 with fail
        go_loopg [8, 10, 34, 42] N (fun kx v8 v10 v34 v42 wr => ∃ j : Nat, j ≤ N ∧ kx = N - j ∧ v34 = .int .i64 (j : Int) ∧ Hid (wr.ownsRow b 5 1 (.slice (some ⟨b, 0, none⟩) m m) m (bys (mkF m (L.take j))) ∧ Below b w4 wr))
        case atStart => exact ⟨0, Nat.zero_le _, rfl, rfl, Lib.hid ⟨HX0.out, HY0.out⟩⟩
        case round =>
          obtain ⟨j, hj, hkx, rfl, HI⟩ := hrel
          have HJ := Lib.hid hkx
          clear hkx HX0 HY0
          by_cases hlj : j < N
          · have hlj' : (j : Int) < (N : Int) := by omega
            obtain ⟨s, hs⟩ : ∃ s, L[j]? = some s := ⟨_, List.getElem?_eq_getElem (by have := HN.out; omega)⟩
            have hss := HS2.out s (List.mem_of_getElem? hs)
            have hbw : Below w.heap.size w wr := HB4.out.trans (HI.out.2.mono sb)
            obtain ⟨g, off, u, rfl, hgB, hu, hcell⟩ := (HR.out.below hbw).at_ (k := j) (by have := HN.out; omega)
            rw [strs_get L j s hs] at hu
            injection hu with hu
            subst hu
            have HSN : Hid (mkF m (L.take (j + 1)) = setN (mkF m (L.take j)) (kp m s) 6) := Lib.hid (by
              have : L.take (j + 1) = L.take j ++ [s] := by rw [List.take_add_one, hs]; rfl
              rw [this, mkF_snoc, addK])
            have HLN : Hid ((mkF m (L.take j)).length = m ∧ ∀ c ∈ mkF m (L.take j), c < 256) := Lib.hid ⟨mkF_len _ _, mkF_lt _ _⟩
            generalize mkF m (L.take j) = G at *
            generalize hG2 : mkF m (L.take (j + 1)) = G2 at *
            have HG2 := Lib.hid hG2
            clear hG2
            have HKB := Lib.hid (kbits_any s hss.1 hss.2 m (by omega) hnp wr)
            have hsl : (s.length : Int) ≤ 1000000000 := by omega
            go_wp2_with fail
            refine HKB.out.mono ?_
            rintro e w6 ⟨v6, rfl, hB6, hb6⟩
            have hob : b < wr.heap.size := (own_lt HI.out.1 b rfl).2
            have HO6 := Lib.hid (⟨own_keep HI.out.1 (fun k hk => hb6.block k (own_lt HI.out.1 k hk).2), hB6.base_le (base' := b + 1) (by omega), HI.out.2.trans (hb6.mono (by omega))⟩ : w6.ownsRow b 5 1 (.slice (some ⟨b, 0, none⟩) m m) m (bys G) ∧ Buf w6 (b + 1) v6 6 (ints (kps m s 6)) ∧ Below b w4 w6)
            obtain ⟨A6, c6, rfl, _, _⟩ := hB6.slice
            clear hB6 hb6 HKB hcell hbw
            go_upto_region 14 with fail
            go_loopg [10, 42] 6 (fun kx v10 v42 wq => ∃ k : Nat, k ≤ 6 ∧ kx = 6 - k ∧ v42 = .int .i64 (k : Int) ∧ Hid (wq.ownsRow b 5 1 (.slice (some ⟨b, 0, none⟩) m m) m (bys (setN G (kp m s) k)) ∧ Buf wq (b + 1) (.slice A6 6 c6) 6 (ints (kps m s 6)) ∧ Below b w4 wq))
            case atStart => exact ⟨0, by omega, rfl, rfl, HO6⟩
            case round =>
              obtain ⟨k, hk6, hkx, rfl, HQ⟩ := hrel
              have HK := Lib.hid hkx
              clear hkx HO6
              by_cases hlk : k < 6
              · have hlk' : (k : Int) < 6 := by omega
                have hp8 := kp_lt m s hss.1 hnp k
                have HSB : Hid (setN G (kp m s) (k + 1) = setB (setN G (kp m s) k) (kp m s k)) := Lib.hid rfl
                have HL2 : Hid ((setN G (kp m s) k).length = m ∧ ∀ c ∈ setN G (kp m s) k, c < 256) := Lib.hid ⟨by rw [setN_len, HLN.out.1], setN_lt G HLN.out.2 _ k⟩
                obtain ⟨A', c', e', _, hr'⟩ := HQ.out.2.1.slice
                injection e' with e1 e2 e3
                subst e1
                subst e3
                obtain ⟨g6, o6, u6', rfl, _, hu, hcell⟩ := hr'.at_ (k := k) hlk
                rw [ints_get _ k (by rw [kps_len]; exact hlk), show (kps m s 6).getD k 0 = kp m s k by rw [List.getD, kps_get m s k 6 hlk]; rfl] at hu
                injection hu with hu
                subst hu
                clear hr'
                generalize setN G (kp m s) k = E at *
                generalize hE2 : setN G (kp m s) (k + 1) = E2 at *
                have HE2 := Lib.hid hE2
                clear hE2
                generalize kp m s k = p at *
                have HSB2 : Hid (E2 = E.set (p / 8) (E.getD (p / 8) 0 ||| 2 ^ (p % 8))) := Lib.hid HSB.out
                have hq : p / 8 < m := by omega
                have hpq : (p : Int) / 8 = ((p / 8 : Nat) : Int) := by omega
                have hpm : (p : Int) % 8 = ((p % 8 : Nat) : Int) := by omega
                have hm8 : p % 8 < 8 := Nat.mod_lt _ (by decide)
                have hcl := getD_lt HL2.out.2 (p / 8)
                have hba := bit_all _ hcl _ hm8
                obtain ⟨g', off, e1, _, hc⟩ := (own_rd HQ.out.1).2 (by omega)
                injection e1 with e1
                injection e1 with e1 e2
                subst e1
                subst e2
                have hcb := hc (p / 8) _ (getD_bys E (p / 8) (by rw [HL2.out.1]; exact hq))
                rw [Nat.zero_add] at hcb
                have hfz := HQ.out.1.frozenAt (p / 8)
                have hpow : 2 ^ (p % 8) < 256 := pow_byte p
                have HST := Lib.hid (fun (y : Nat) => show (wr.setCell ⟨b, p / 8, none⟩ (.int .u8 (y : Int))).ownsRow b 5 1 (.slice (some ⟨b, 0, none⟩) m m) m (bys (E.set (p / 8) y)) ∧ Buf (wr.setCell ⟨b, p / 8, none⟩ (.int .u8 (y : Int))) (b + 1) (.slice (some ⟨g6, o6, none⟩) 6 c6) 6 (ints (kps m s 6)) ∧ Below b w4 (wr.setCell ⟨b, p / 8, none⟩ (.int .u8 (y : Int))) from by
                  obtain ⟨h1, h2⟩ := HQ.out.1.stored (p / 8) (.int .u8 (y : Int))
                  refine ⟨by simpa [bys, List.map_set] using h1, HQ.out.2.1.keep h2.size (fun k hk => h2.block k (HQ.out.2.1.lt k hk).2 (fun e => ?_)), HQ.out.2.2.setCell (p := ⟨b, p / 8, none⟩) (Nat.le_refl _) _⟩
                  have := (HQ.out.2.1.lt k hk).1
                  injection e with e
                  omega)
                clear hc
                generalize hcc : E.getD (p / 8) 0 = cc at *
                have HCC := Lib.hid hcc
                clear hcc
                generalize p / 8 = q at *
                generalize p % 8 = mm at *
                have hpi : (p : Int) ≤ 800 := by omega
                have hP : (2 : Int) ^ mm = ((2 ^ mm : Nat) : Int) := by simp
                have hd : (cc : Int) / ((2 ^ mm : Nat) : Int) = ((cc / 2 ^ mm : Nat) : Int) := by simp
                generalize 2 ^ mm = P at *
                have hdl : cc / P ≤ cc := Nat.div_le_self _ _
                generalize cc / P = d at *
                by_cases hbit : d % 2 = 0
                · obtain ⟨hb1, hb2⟩ := hba.1 hbit
                  have HYE := Lib.hid (HST.out (cc ||| P))
                  have HSB3 : Hid (E2 = E.set q (cc ||| P)) := HSB2
                  generalize cc ||| P = y at *
                  have hye : (cc : Int) + (P : Int) = (y : Int) := by omega
                  have hbit' : (d : Int) % 2 = 0 := by omega
                  have hPl : (P : Int) % 256 = (P : Int) := by omega
                  clear hba hbit HST HSB2 hb1
                  go_wp2
                  go_roundg (6 - (k + 1))
                  case measure => have := HK.out; omega
                  case rel => exact ⟨k + 1, by omega, rfl, by go_num, Lib.hid (by rw [HE2.out, HSB3.out]; exact HYE.out)⟩
                · have hb1 := hba.2 hbit
                  have HSB3 : Hid (E2 = E) := Lib.hid (by rw [HSB2.out, hb1]; exact set_same E q cc HCC.out (by rw [HL2.out.1]; exact hq))
                  have hbit' : (d : Int) % 2 = 1 := by omega
                  clear hba hbit HST HSB2 hb1
                  go_wp2
                  go_roundg (6 - (k + 1))
                  case measure => have := HK.out; omega
                  case rel => exact ⟨k + 1, by omega, rfl, by go_num, Lib.hid (by rw [HE2.out, HSB3.out]; exact HQ.out)⟩
              · obtain rfl : k = 6 := by omega
                go_wp2
                go_roundg (N - (j + 1))
                case measure => have := HJ.out; omega
                case rel => exact ⟨j + 1, by omega, rfl, by go_num, Lib.hid (by rw [HG2.out, HSN.out]; exact ⟨HQ.out.1, HQ.out.2.2⟩)⟩
          · obtain rfl : j = N := by omega
            have hLe : L.take j = L := List.take_of_length_le (by have := HN.out; omega)
            rw [hLe, ← HFE.out] at HI
            clear hLe
            have hbw : Below w.heap.size w wr := HB4.out.trans (HI.out.2.mono sb)
            have cf := (HI.out.2.cell (p := ⟨gf, 0, none⟩) z4).trans HCF4.out
            have l1 : gf < wr.heap.size := World.block_lt_of_cell? _ _ cf
            have HCV := Lib.hid (fun wx (hb : Below wr.heap.size wr wx) => show (convert 30 9 (.slice (some ⟨b, 0, none⟩) m m)).run Tryd.prog wx = .ok (.string FS) wx from by
              rw [HFSE.out]
              exact run_conv (P := Tryd.prog) m ((own_rd HI.out.1).below hb) 30 9 5 Tryd.underlying30 Tryd.underlying5 Tryd.underlying9)
            have KEEP := Lib.hid (fun (wx wy : World) (h : wx.cell? ⟨gf, 0, none⟩ = some (.string FS) ∧ (convert 30 9 (.slice (some ⟨b, 0, none⟩) m m)).run Tryd.prog wx = .ok (.string FS) wx ∧ Below wr.heap.size wr wx) (hb : Below wx.heap.size wx wy) =>
              (⟨(hb.cell (p := ⟨gf, 0, none⟩) (Nat.lt_of_lt_of_le l1 h.2.2.size)).trans h.1, HCV.out _ (h.2.2.trans (hb.mono h.2.2.size)), h.2.2.trans (hb.mono h.2.2.size)⟩ : wy.cell? ⟨gf, 0, none⟩ = some (.string FS) ∧ (convert 30 9 (.slice (some ⟨b, 0, none⟩) m m)).run Tryd.prog wy = .ok (.string FS) wy ∧ Below wr.heap.size wr wy))
            have HBW0 := Lib.hid hbw
            have HF6 : Hid (strB (6 :: F) = (⟨#[6]⟩ : ByteArray) ++ FS) := Lib.hid (by rw [HFSE.out]; exact (strB_app [6] F).symm)
            have hfs : ¬ 9223372036854775807 < 1 + FS.size := by rw [HFSE.out, strB_size, HLF.out.1]; omega
            clear hbw l1
            go_upto_region 20 with fail
            refine wp_region_noPanic ?_
            refine wp_region_held_drew (S := (fun wx => wx.cell? ⟨gf, 0, none⟩ = some (.string FS) ∧ (convert 30 9 (.slice (some ⟨b, 0, none⟩) m m)).run Tryd.prog wx = .ok (.string FS) wx ∧ Below wr.heap.size wr wx)) (by kernel_rfl) (⟨cf, HCV.out _ (Below.refl _ _).drew, (Below.refl _ _).drew⟩) (fun hHeld => ?_)
            refine wpAnyH_take (i := 0) (v := ?_) (by simp only [List.getElem?_toArray, List.getElem?_cons_succ, List.getElem?_cons_zero]; rfl) (by kernel_rfl) (by kernel_rfl) (by kernel_rfl) (fun _ _ _ h => h) (Or.inl ⟨by rfl, ?_⟩) (by assumption) ?_
            rotate_left
            · (intro w hSw; (try dsimp only at hSw); go_simp; (try with_reducible rfl))
            (try simp only [Act.put, List.setIfInBounds_toArray, List.set_cons_zero, List.set_cons_succ])
            refine wpAnyH_take (i := 1) (v := ?_) (by simp only [List.getElem?_toArray, List.getElem?_cons_succ, List.getElem?_cons_zero]; rfl) (by kernel_rfl) (by kernel_rfl) (by kernel_rfl) (fun _ _ _ h => h) (Or.inl ⟨by rfl, ?_⟩) (by assumption) ?_
            rotate_left
            · (intro w hSw; (try dsimp only at hSw); go_simp; (try with_reducible rfl))
            (try simp only [Act.put, List.setIfInBounds_toArray, List.set_cons_zero, List.set_cons_succ])
            refine wpAnyH_take (i := 2) (v := ?_) (by simp only [List.getElem?_toArray, List.getElem?_cons_succ, List.getElem?_cons_zero]; rfl) (by kernel_rfl) (by kernel_rfl) (by kernel_rfl) (fun _ _ _ h => h) (Or.inl ⟨by rfl, ?_⟩) (by assumption) ?_
            rotate_left
            · (intro w hSw; (try dsimp only at hSw); go_simp; (try with_reducible rfl))
            (try simp only [Act.put, List.setIfInBounds_toArray, List.set_cons_zero, List.set_cons_succ])
            refine wpAnyH_take (i := 3) (v := ?_) (by simp only [List.getElem?_toArray, List.getElem?_cons_succ, List.getElem?_cons_zero]; rfl) (by kernel_rfl) (by kernel_rfl) (by kernel_rfl) (fun _ _ _ h => h) (Or.inl ⟨by rfl, ?_⟩) (by assumption) ?_
            rotate_left
            · (intro w hSw; (try dsimp only at hSw); go_simp; (try with_reducible rfl))
            (try simp only [Act.put, List.setIfInBounds_toArray, List.set_cons_zero, List.set_cons_succ])
            refine wpAnyH_take (i := 6) (v := ?_) (by simp only [List.getElem?_toArray, List.getElem?_cons_succ, List.getElem?_cons_zero]; rfl) (by kernel_rfl) (by kernel_rfl) (by kernel_rfl) (fun _ _ _ h => h) (Or.inl ⟨by rfl, ?_⟩) (by assumption) ?_
            rotate_left
            · (intro w hSw; (try dsimp only at hSw); go_simp; (try with_reducible rfl))
            (try simp only [Act.put, List.setIfInBounds_toArray, List.set_cons_zero, List.set_cons_succ])
            refine wpAnyH_take (i := 7) (v := .string FS) (by simp only [List.getElem?_toArray, List.getElem?_cons_succ, List.getElem?_cons_zero]; rfl) (by kernel_rfl) (by kernel_rfl) (by kernel_rfl) (fun _ _ _ h => h) (Or.inl ⟨by rfl, ?_⟩) (by assumption) ?_
            · (intro w hSw; (try dsimp only at hSw); go_simp; (try simp))
            (try simp only [Act.put, List.setIfInBounds_toArray, List.set_cons_zero, List.set_cons_succ])
            refine wpAnyH_take (i := 8) (v := ?_) (by simp only [List.getElem?_toArray, List.getElem?_cons_succ, List.getElem?_cons_zero]; rfl) (by kernel_rfl) (by kernel_rfl) (by kernel_rfl) (fun _ _ _ h => h) (Or.inl ⟨by rfl, ?_⟩) (by assumption) ?_
            rotate_left
            · (intro w hSw; (try dsimp only at hSw); go_simp; (try with_reducible rfl))
            (try simp only [Act.put, List.setIfInBounds_toArray, List.set_cons_zero, List.set_cons_succ])
            refine wpAnyH_ready (rs := [4]) (by kernel_rfl) (by simp) ?_
            refine AllReadyH.cons (by simp only [List.getElem?_toArray, List.getElem?_cons_succ, List.getElem?_cons_zero]; rfl) (fun K hK => ?_) AllReadyH.nil
            go_simp
            refine (HBY.out _).mono ?_
            rintro ee w6 ⟨A6, c6, rfl, hr6, _, hb6⟩
            refine hK.out _ _ ?_ (fun hHeld => ?_)
            · exact KEEP.out _ _ hHeld hb6
            clear hK K
            (try simp only [Act.put, List.setIfInBounds_toArray, List.set_cons_zero, List.set_cons_succ])
            refine wpAnyH_ready (rs := [5]) (by kernel_rfl) (by simp) ?_
            refine AllReadyH.cons (by simp only [List.getElem?_toArray, List.getElem?_cons_succ, List.getElem?_cons_zero]; rfl) (fun K hK => ?_) AllReadyH.nil
            have cv6 := run_conv (P := Tryd.prog) c6 hr6 30 9 5 Tryd.underlying30 Tryd.underlying5 Tryd.underlying9
            rw [HF6.out] at cv6
            go_simp
            refine hK.out _ _ ?_ (fun hHeld => ?_)
            · exact hHeld
            clear hK K
            (try simp only [Act.put, List.setIfInBounds_toArray, List.set_cons_zero, List.set_cons_succ])
            refine wpAnyH_take (i := 9) (v := ?_) (by simp only [List.getElem?_toArray, List.getElem?_cons_succ, List.getElem?_cons_zero]; rfl) (by kernel_rfl) (by kernel_rfl) (by kernel_rfl) (fun _ _ _ h => h) (Or.inl ⟨by rfl, ?_⟩) (by assumption) ?_
            rotate_left
            · (intro w hSw; (try dsimp only at hSw); go_simp; (try with_reducible rfl))
            (try simp only [Act.put, List.setIfInBounds_toArray, List.set_cons_zero, List.set_cons_succ])
            refine wpAnyH_take (i := 10) (v := ?_) (by simp only [List.getElem?_toArray, List.getElem?_cons_succ, List.getElem?_cons_zero]; rfl) (by kernel_rfl) (by kernel_rfl) (by kernel_rfl) (fun _ _ _ h => h) (Or.inl ⟨by rfl, ?_⟩) (by assumption) ?_
            rotate_left
            · (intro w hSw; (try dsimp only at hSw); go_simp; (try with_reducible rfl))
            (try simp only [Act.put, List.setIfInBounds_toArray, List.set_cons_zero, List.set_cons_succ])
            refine wpAnyH_done (by kernel_rfl) ?_ _
            refine NoPanic.normal ?_
            have HB7 := Lib.hid (HBW0.out.trans (hHeld.2.2.mono HBW0.out.size))
            have cf7 := hHeld.1
            clear hHeld cf hfs hr6 hb6 cv6
            generalize hw7 : w6 = w7 at *
            clear hw7
            have z7 : gf < w7.heap.size := World.block_lt_of_cell? _ _ cf7
            go_wp2_with fail
            refine (HBYA.out w7).mono ?_
            rintro e w8 ⟨A8, c8, rfl, hr8, hc8, hm8, hb8⟩
            have HB8 := Lib.hid (HB7.out.trans (hb8.mono HB7.out.size))
            have cf8 := (hb8.cell (p := ⟨gf, 0, none⟩) z7).trans cf7
            have HPA := Lib.hid (parse_any A8 (1 + F.length) c8 (6 :: F) w8 hr8 (by intro x hx; rcases List.mem_cons.1 hx with rfl | hx; decide; exact HLF.out.2 x hx) (by rw [HLF.out.1]; omega) hc8 hm8)
            rw [HPV.out, HFS.out] at HPA
            clear hb8 hr8 hc8 hm8 cf7 z7
            have z8 : gf < w8.heap.size := World.block_lt_of_cell? _ _ cf8
            go_wp2_with fail
            refine HPA.out.mono ?_
            rintro e w6 ⟨rfl, hb6⟩
            have HB6 := Lib.hid (HB8.out.trans (hb6.mono HB8.out.size))
            have cf6 := (hb6.cell (p := ⟨gf, 0, none⟩) z8).trans cf8
            have z6 : gf < w6.heap.size := World.block_lt_of_cell? _ _ cf6
            have s6 := HB6.out.size
            clear hb6 HPA cf8 z8 KEEP
            go_upto_region 23 with fail
            obtain ⟨w0, hw0⟩ : ∃ w0, w0 = w6.alloc (.cells #[.string FS] 26) := ⟨_, rfl⟩
            rw [← hw0]
            have HBW : Hid (Below w.heap.size w w0) := by rw [hw0]; exact Lib.hid (HB6.out.alloc s6 _)
            obtain ⟨gg, hgg⟩ : ∃ gg, gg = w6.heap.size := ⟨_, rfl⟩
            have cg : w0.cell? ⟨gg, 0, none⟩ = some (.string FS) := by rw [hw0, hgg, World.cell?_alloc_mark]; rfl
            have cf : w0.cell? ⟨gf, 0, none⟩ = some (.string FS) := by rw [hw0, ((Below.refl _ w6).alloc (Nat.le_refl _) _).cell (p := ⟨gf, 0, none⟩) z6]; exact cf6
            rw [← hgg]
            have l1 : gf < w0.heap.size := World.block_lt_of_cell? _ _ cf
            have l2 : gg < w0.heap.size := World.block_lt_of_cell? _ _ cg
            have KEEP := Lib.hid (fun (wx wy : World) (h : wx.cell? ⟨gf, 0, none⟩ = some (.string FS) ∧ wx.cell? ⟨gg, 0, none⟩ = some (.string FS) ∧ Below w0.heap.size w0 wx) (hb : Below wx.heap.size wx wy) =>
              (⟨(hb.cell (p := ⟨gf, 0, none⟩) (Nat.lt_of_lt_of_le l1 h.2.2.size)).trans h.1, (hb.cell (p := ⟨gg, 0, none⟩) (Nat.lt_of_lt_of_le l2 h.2.2.size)).trans h.2.1, h.2.2.trans (hb.mono h.2.2.size)⟩ : wy.cell? ⟨gf, 0, none⟩ = some (.string FS) ∧ wy.cell? ⟨gg, 0, none⟩ = some (.string FS) ∧ Below w0.heap.size w0 wy))
            clear hw0 hgg cf6 z6 l1 l2
            refine wp_region_noPanic ?_
            refine wp_region_held_drew (S := (fun wx => wx.cell? ⟨gf, 0, none⟩ = some (.string FS) ∧ wx.cell? ⟨gg, 0, none⟩ = some (.string FS) ∧ Below w0.heap.size w0 wx)) (by kernel_rfl) (⟨cf, cg, (Below.refl _ _).drew⟩) (fun hHeld => ?_)
            refine wpAnyH_take (i := 0) (v := ?_) (by simp only [List.getElem?_toArray, List.getElem?_cons_succ, List.getElem?_cons_zero]; rfl) (by kernel_rfl) (by kernel_rfl) (by kernel_rfl) (fun _ _ _ h => h) (Or.inl ⟨by rfl, ?_⟩) (by assumption) ?_
            rotate_left
            · (intro w hSw; (try dsimp only at hSw); go_simp; (try with_reducible rfl))
            (try simp only [Act.put, List.setIfInBounds_toArray, List.set_cons_zero, List.set_cons_succ])
            refine wpAnyH_take (i := 1) (v := ?_) (by simp only [List.getElem?_toArray, List.getElem?_cons_succ, List.getElem?_cons_zero]; rfl) (by kernel_rfl) (by kernel_rfl) (by kernel_rfl) (fun _ _ _ h => h) (Or.inl ⟨by rfl, ?_⟩) (by assumption) ?_
            rotate_left
            · (intro w hSw; (try dsimp only at hSw); go_simp; (try with_reducible rfl))
            (try simp only [Act.put, List.setIfInBounds_toArray, List.set_cons_zero, List.set_cons_succ])
            refine wpAnyH_take (i := 2) (v := ?_) (by simp only [List.getElem?_toArray, List.getElem?_cons_succ, List.getElem?_cons_zero]; rfl) (by kernel_rfl) (by kernel_rfl) (by kernel_rfl) (fun _ _ _ h => h) (Or.inl ⟨by rfl, ?_⟩) (by assumption) ?_
            rotate_left
            · (intro w hSw; (try dsimp only at hSw); go_simp; (try with_reducible rfl))
            (try simp only [Act.put, List.setIfInBounds_toArray, List.set_cons_zero, List.set_cons_succ])
            refine wpAnyH_take (i := 3) (v := ?_) (by simp only [List.getElem?_toArray, List.getElem?_cons_succ, List.getElem?_cons_zero]; rfl) (by kernel_rfl) (by kernel_rfl) (by kernel_rfl) (fun _ _ _ h => h) (Or.inl ⟨by rfl, ?_⟩) (by assumption) ?_
            rotate_left
            · (intro w hSw; (try dsimp only at hSw); go_simp; (try with_reducible rfl))
            (try simp only [Act.put, List.setIfInBounds_toArray, List.set_cons_zero, List.set_cons_succ])
            refine wpAnyH_take (i := 6) (v := ?_) (by simp only [List.getElem?_toArray, List.getElem?_cons_succ, List.getElem?_cons_zero]; rfl) (by kernel_rfl) (by kernel_rfl) (by kernel_rfl) (fun _ _ _ h => h) (Or.inl ⟨by rfl, ?_⟩) (by assumption) ?_
            rotate_left
            · (intro w hSw; (try dsimp only at hSw); go_simp; (try with_reducible rfl))
            (try simp only [Act.put, List.setIfInBounds_toArray, List.set_cons_zero, List.set_cons_succ])
            refine wpAnyH_ready (rs := [4]) (by kernel_rfl) (by simp) ?_
            refine AllReadyH.cons (by simp only [List.getElem?_toArray, List.getElem?_cons_succ, List.getElem?_cons_zero]; rfl) (fun K hK => ?_) AllReadyH.nil
            go_simp
            refine (HBY.out _).mono ?_
            rintro ee w1 ⟨A1, c1, rfl, hr1, _, hb1⟩
            refine hK.out _ _ ?_ (fun hHeld => ?_)
            · exact KEEP.out _ _ hHeld hb1
            clear hK K
            (try simp only [Act.put, List.setIfInBounds_toArray, List.set_cons_zero, List.set_cons_succ])
            refine wpAnyH_ready (rs := [5, 7]) (by kernel_rfl) (by simp) ?_
            refine AllReadyH.cons (by simp only [List.getElem?_toArray, List.getElem?_cons_succ, List.getElem?_cons_zero]; rfl) (fun K hK => ?_) (AllReadyH.cons (by simp only [List.getElem?_toArray, List.getElem?_cons_succ, List.getElem?_cons_zero]; rfl) (fun K hK => ?_) AllReadyH.nil)
            · have cv1 := run_conv (P := Tryd.prog) c1 hr1 30 9 5 Tryd.underlying30 Tryd.underlying5 Tryd.underlying9
              go_simp
              refine hK.out _ _ ?_ (fun hHeld => ?_)
              · exact hHeld
              clear hK K
              (try simp only [Act.put, List.setIfInBounds_toArray, List.set_cons_zero, List.set_cons_succ])
              refine wpAnyH_ready (rs := [7]) (by kernel_rfl) (by simp) ?_
              refine AllReadyH.cons (by simp only [List.getElem?_toArray, List.getElem?_cons_succ, List.getElem?_cons_zero]; rfl) (fun K hK => ?_) AllReadyH.nil
              go_simp
              refine (HBY.out _).mono ?_
              rintro ee w2 ⟨A2, c2, rfl, hr2, _, hb2⟩
              refine hK.out _ _ ?_ (fun hHeld => ?_)
              · exact KEEP.out _ _ hHeld hb2
              clear hK K
              (try simp only [Act.put, List.setIfInBounds_toArray, List.set_cons_zero, List.set_cons_succ])
              refine wpAnyH_ready (rs := [8]) (by kernel_rfl) (by simp) ?_
              refine AllReadyH.cons (by simp only [List.getElem?_toArray, List.getElem?_cons_succ, List.getElem?_cons_zero]; rfl) (fun K hK => ?_) AllReadyH.nil
              have cv2 := run_conv (P := Tryd.prog) c2 hr2 30 9 5 Tryd.underlying30 Tryd.underlying5 Tryd.underlying9
              go_simp
              refine hK.out _ _ ?_ (fun hHeld => ?_)
              · exact hHeld
              clear hK K
              (try simp only [Act.put, List.setIfInBounds_toArray, List.set_cons_zero, List.set_cons_succ])
              refine wpAnyH_take (i := 9) (v := ?_) (by simp only [List.getElem?_toArray, List.getElem?_cons_succ, List.getElem?_cons_zero]; rfl) (by kernel_rfl) (by kernel_rfl) (by kernel_rfl) (fun _ _ _ h => h) (Or.inl ⟨by rfl, ?_⟩) (by assumption) ?_
              rotate_left
              · (intro w hSw; (try dsimp only at hSw); go_simp; (try with_reducible rfl))
              (try simp only [Act.put, List.setIfInBounds_toArray, List.set_cons_zero, List.set_cons_succ])
              refine wpAnyH_take (i := 10) (v := ?_) (by simp only [List.getElem?_toArray, List.getElem?_cons_succ, List.getElem?_cons_zero]; rfl) (by kernel_rfl) (by kernel_rfl) (by kernel_rfl) (fun _ _ _ h => h) (Or.inl ⟨by rfl, ?_⟩) (by assumption) ?_
              rotate_left
              · (intro w hSw; (try dsimp only at hSw); go_simp; (try with_reducible rfl))
              (try simp only [Act.put, List.setIfInBounds_toArray, List.set_cons_zero, List.set_cons_succ])
              refine wpAnyH_take (i := 11) (v := ?_) (by simp only [List.getElem?_toArray, List.getElem?_cons_succ, List.getElem?_cons_zero]; rfl) (by kernel_rfl) (by kernel_rfl) (by kernel_rfl) (fun _ _ _ h => h) (Or.inl ⟨by rfl, ?_⟩) (by assumption) ?_
              rotate_left
              · (intro w hSw; (try dsimp only at hSw); go_simp; (try with_reducible rfl))
              (try simp only [Act.put, List.setIfInBounds_toArray, List.set_cons_zero, List.set_cons_succ])
              refine wpAnyH_done (by kernel_rfl) ?_ _
              refine NoPanic.normal ?_
              have HF := Lib.hid (HBW.out.trans (hHeld.2.2.mono HBW.out.size))
              clear hHeld
              go_wp2
              go_ret
              exact ⟨by simp, HF.out⟩
            · go_simp
              refine (HBY.out _).mono ?_
              rintro ee w2 ⟨A2, c2, rfl, hr2, _, hb2⟩
              have hr1' := (hr1.below hb2).up hb2.size
              refine hK.out _ _ ?_ (fun hHeld => ?_)
              · exact KEEP.out _ _ hHeld hb2
              clear hK K
              (try simp only [Act.put, List.setIfInBounds_toArray, List.set_cons_zero, List.set_cons_succ])
              refine wpAnyH_ready (rs := [5, 8]) (by kernel_rfl) (by simp) ?_
              refine AllReadyH.cons (by simp only [List.getElem?_toArray, List.getElem?_cons_succ, List.getElem?_cons_zero]; rfl) (fun K hK => ?_) (AllReadyH.cons (by simp only [List.getElem?_toArray, List.getElem?_cons_succ, List.getElem?_cons_zero]; rfl) (fun K hK => ?_) AllReadyH.nil)
              · have cv1 := run_conv (P := Tryd.prog) c1 hr1' 30 9 5 Tryd.underlying30 Tryd.underlying5 Tryd.underlying9
                go_simp
                refine hK.out _ _ ?_ (fun hHeld => ?_)
                · exact hHeld
                clear hK K
                (try simp only [Act.put, List.setIfInBounds_toArray, List.set_cons_zero, List.set_cons_succ])
                refine wpAnyH_ready (rs := [8]) (by kernel_rfl) (by simp) ?_
                refine AllReadyH.cons (by simp only [List.getElem?_toArray, List.getElem?_cons_succ, List.getElem?_cons_zero]; rfl) (fun K hK => ?_) AllReadyH.nil
                have cv2 := run_conv (P := Tryd.prog) c2 hr2 30 9 5 Tryd.underlying30 Tryd.underlying5 Tryd.underlying9
                go_simp
                refine hK.out _ _ ?_ (fun hHeld => ?_)
                · exact hHeld
                clear hK K
                (try simp only [Act.put, List.setIfInBounds_toArray, List.set_cons_zero, List.set_cons_succ])
                refine wpAnyH_take (i := 9) (v := ?_) (by simp only [List.getElem?_toArray, List.getElem?_cons_succ, List.getElem?_cons_zero]; rfl) (by kernel_rfl) (by kernel_rfl) (by kernel_rfl) (fun _ _ _ h => h) (Or.inl ⟨by rfl, ?_⟩) (by assumption) ?_
                rotate_left
                · (intro w hSw; (try dsimp only at hSw); go_simp; (try with_reducible rfl))
                (try simp only [Act.put, List.setIfInBounds_toArray, List.set_cons_zero, List.set_cons_succ])
                refine wpAnyH_take (i := 10) (v := ?_) (by simp only [List.getElem?_toArray, List.getElem?_cons_succ, List.getElem?_cons_zero]; rfl) (by kernel_rfl) (by kernel_rfl) (by kernel_rfl) (fun _ _ _ h => h) (Or.inl ⟨by rfl, ?_⟩) (by assumption) ?_
                rotate_left
                · (intro w hSw; (try dsimp only at hSw); go_simp; (try with_reducible rfl))
                (try simp only [Act.put, List.setIfInBounds_toArray, List.set_cons_zero, List.set_cons_succ])
                refine wpAnyH_take (i := 11) (v := ?_) (by simp only [List.getElem?_toArray, List.getElem?_cons_succ, List.getElem?_cons_zero]; rfl) (by kernel_rfl) (by kernel_rfl) (by kernel_rfl) (fun _ _ _ h => h) (Or.inl ⟨by rfl, ?_⟩) (by assumption) ?_
                rotate_left
                · (intro w hSw; (try dsimp only at hSw); go_simp; (try with_reducible rfl))
                (try simp only [Act.put, List.setIfInBounds_toArray, List.set_cons_zero, List.set_cons_succ])
                refine wpAnyH_done (by kernel_rfl) ?_ _
                refine NoPanic.normal ?_
                have HF := Lib.hid (HBW.out.trans (hHeld.2.2.mono HBW.out.size))
                clear hHeld
                go_wp2
                go_ret
                exact ⟨by simp, HF.out⟩
              · have cv2 := run_conv (P := Tryd.prog) c2 hr2 30 9 5 Tryd.underlying30 Tryd.underlying5 Tryd.underlying9
                go_simp
                refine hK.out _ _ ?_ (fun hHeld => ?_)
                · exact hHeld
                clear hK K
                (try simp only [Act.put, List.setIfInBounds_toArray, List.set_cons_zero, List.set_cons_succ])
                refine wpAnyH_ready (rs := [5]) (by kernel_rfl) (by simp) ?_
                refine AllReadyH.cons (by simp only [List.getElem?_toArray, List.getElem?_cons_succ, List.getElem?_cons_zero]; rfl) (fun K hK => ?_) AllReadyH.nil
                have cv1 := run_conv (P := Tryd.prog) c1 hr1' 30 9 5 Tryd.underlying30 Tryd.underlying5 Tryd.underlying9
                go_simp
                refine hK.out _ _ ?_ (fun hHeld => ?_)
                · exact hHeld
                clear hK K
                (try simp only [Act.put, List.setIfInBounds_toArray, List.set_cons_zero, List.set_cons_succ])
                refine wpAnyH_take (i := 9) (v := ?_) (by simp only [List.getElem?_toArray, List.getElem?_cons_succ, List.getElem?_cons_zero]; rfl) (by kernel_rfl) (by kernel_rfl) (by kernel_rfl) (fun _ _ _ h => h) (Or.inl ⟨by rfl, ?_⟩) (by assumption) ?_
                rotate_left
                · (intro w hSw; (try dsimp only at hSw); go_simp; (try with_reducible rfl))
                (try simp only [Act.put, List.setIfInBounds_toArray, List.set_cons_zero, List.set_cons_succ])
                refine wpAnyH_take (i := 10) (v := ?_) (by simp only [List.getElem?_toArray, List.getElem?_cons_succ, List.getElem?_cons_zero]; rfl) (by kernel_rfl) (by kernel_rfl) (by kernel_rfl) (fun _ _ _ h => h) (Or.inl ⟨by rfl, ?_⟩) (by assumption) ?_
                rotate_left
                · (intro w hSw; (try dsimp only at hSw); go_simp; (try with_reducible rfl))
                (try simp only [Act.put, List.setIfInBounds_toArray, List.set_cons_zero, List.set_cons_succ])
                refine wpAnyH_take (i := 11) (v := ?_) (by simp only [List.getElem?_toArray, List.getElem?_cons_succ, List.getElem?_cons_zero]; rfl) (by kernel_rfl) (by kernel_rfl) (by kernel_rfl) (fun _ _ _ h => h) (Or.inl ⟨by rfl, ?_⟩) (by assumption) ?_
                rotate_left
                · (intro w hSw; (try dsimp only at hSw); go_simp; (try with_reducible rfl))
                (try simp only [Act.put, List.setIfInBounds_toArray, List.set_cons_zero, List.set_cons_succ])
                refine wpAnyH_done (by kernel_rfl) ?_ _
                refine NoPanic.normal ?_
                have HF := Lib.hid (HBW.out.trans (hHeld.2.2.mono HBW.out.size))
                clear hHeld
                go_wp2
                go_ret
                exact ⟨by simp, HF.out⟩
end Go.Proofs.YtajgmadohhagkaaDoor
