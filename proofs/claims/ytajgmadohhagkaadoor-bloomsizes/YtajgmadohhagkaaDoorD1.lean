/- The walk of BloomSizes. -/
import Derived.Test.YtajgmadohhagkaaDoorC6
import Derived.Laws.MakeOwn
namespace Go.Proofs.YtajgmadohhagkaaDoor
set_option linter.unusedSimpArgs false
set_option linter.unusedVariables false
open Go.RowKit

theorem i64_and3 (n : Int) : bits .and .i64 n 3 = n % 4 := by
  have h63 : (BitVec.ofInt 64 3).toNat = 2 ^ 2 - 1 := by decide
  have key : (BitVec.ofInt 64 n &&& BitVec.ofInt 64 3).toNat = (n % ((2 ^ 64 : Nat) : Int)).toNat % 2 ^ 2 := by
    rw [BitVec.toNat_and, BitVec.toNat_ofInt, h63, Nat.and_two_pow_sub_one_eq_mod]
  show IntKind.i64.wrap ((BitVec.ofInt 64 n &&& BitVec.ofInt 64 3).toNat : Nat) = n % 4
  rw [key, IntKind.wrap_i64]
  omega
def abc : Nat → List (List Nat)
  | 0 => []
  | k + 1 => abc k ++ [[97 + k]]
theorem abc_len : ∀ k, (abc k).length = k
  | 0 => rfl
  | k + 1 => by simp [abc, abc_len k]
theorem abc_ok : ∀ k, k ≤ 20 → ∀ s ∈ abc k, (∀ x ∈ s, x < 256) ∧ s.length ≤ 1000000000
  | 0, _ => by intro s hs; cases hs
  | k + 1, h => by
    intro s hs
    rw [abc, List.mem_append] at hs
    rcases hs with hs | hs
    · exact abc_ok k (by omega) s hs
    · simp at hs
      subst hs
      refine ⟨?_, by simp⟩
      intro x hx
      simp at hx
      omega

set_option maxHeartbeats 2000000 in
set_option maxRecDepth 100000 in
theorem sizes_walk (x : Int) (A : Option Addr) (n c : Nat) (bs : List Nat) (w : World) (hr : Rd w w.heap.size A n (bys bs)) (hb : ∀ c ∈ bs, c < 256) (hnc : n ≤ c) (hcm : c ≤ maxLen) (ht : TabAt w) :
    Calls Tryd.prog 7 #[.int .i64 x, .slice A n c] w fun e w' => e = .returned (.bool true) ∧ Below w.heap.size w w' := by
  obtain ⟨i9, hi, hz0, hz1, hz2⟩ := info_parts Tryd.info9
  have HT := Lib.hid ht
  have HR := Lib.hid hr
  have HB := Lib.hid hb
  have HCM := Lib.hid hcm
  have hbl : bs.length = n := by have := hr.1; rwa [bys_len] at this
  have HBL := Lib.hid hbl
  have hn' : (n : Int) ≤ 9223372036854775807 := by unfold maxLen at hcm; omega
  clear ht hr hb hcm hbl
  by_cases h5 : 100 < n
  · have h5' : (100 : Int) < (n : Int) := by omega
    go_enter Tryd.func7, Tryd.ntmps7
    go_upto_region 3 with (go_at_call 8; refine (head_any _ HT.out).mono ?_; rintro e w1 ⟨rfl, hb1⟩)
    go_wp2
    go_ret
    exact ⟨rfl, hb1⟩
  · have h5' : (n : Int) ≤ 100 := by omega
    obtain ⟨m, hm, hx⟩ : ∃ m : Nat, m < 4 ∧ bits .and .i64 x 3 = (m : Int) := ⟨(x % 4).toNat, by omega, by rw [i64_and3]; omega⟩
    obtain ⟨N, hN⟩ : ∃ N, N = 7 + m := ⟨_, rfl⟩
    have HNM := Lib.hid hN
    have hmN : (7 : Int) + (m : Int) = (N : Int) := by omega
    have HFZ : Hid (fsz N = (10 * N + 7) / 8 ∧ 9 ≤ (10 * N + 7) / 8 ∧ (10 * N + 7) / 8 ≤ 20) := Lib.hid (by unfold fsz; omega)
    clear hN
    go_enter Tryd.func7, Tryd.ntmps7
    go_upto_region 3 with (go_at_call 8; refine (head_any _ HT.out).mono ?_; rintro e w1 ⟨rfl, hb1⟩)
    have HB1 := Lib.hid hb1
    have s1 := hb1.size
    clear hb1
    obtain ⟨W1, hmk, hown, hg1⟩ := run_makeSlice_owned (P := Tryd.prog) w1 w1.heap.size 22 9 i9 _ 1 Tryd.underlying22 hi hz0 hz1 .i64 .i64 40 (by omega) (by rw [hz2]; omega) (by unfold maxLen; omega) (Nat.le_refl _)
    have hB1 : Below w1.heap.size w1 W1 := (Below.refl _ _).grown hg1 (Nat.le_refl _) (fun k hk => by cases hk)
    obtain ⟨b, hbe⟩ : ∃ b, b = w1.heap.size := ⟨_, rfl⟩
    have HBE := Lib.hid hbe
    have HX0 : Hid (Buf W1 b (.slice (some ⟨b, 0, none⟩) 0 40) 0 (strs (abc 0))) := by rw [hbe]; exact Lib.hid (Buf.of_own hown)
    have HY0 : Hid (Below b w1 W1) := by rw [hbe]; exact Lib.hid hB1
    have hmk' : (Instr.makeSlice 22 (.int .i64 0) (.int .i64 40)).run Tryd.prog w1 = .ok (.slice (some ⟨b, 0, none⟩) 0 40) W1 := by rw [hbe]; exact hmk
    clear hmk hown hg1 hB1 hbe
    go_upto_region 7 with fail
    clear hmk' hx
    go_upto_region 8 with fail
    go_loopg [5, 6] N (fun kx v5 v6 wr => ∃ k : Nat, k ≤ N ∧ kx = N - k ∧ v6 = .int .i64 (k : Int) ∧ Hid (Buf wr b v5 k (strs (abc k)) ∧ Below b w1 wr))
    case atStart => exact ⟨0, Nat.zero_le _, rfl, rfl, Lib.hid ⟨HX0.out, HY0.out⟩⟩
    case round =>
      obtain ⟨k, hk, hkx, rfl, HI⟩ := hrel
      have HK := Lib.hid hkx
      clear hkx HX0 HY0
      have hbr : b ≤ wr.heap.size := by have := HI.out.2.size; have := HBE.out; omega
      by_cases hlt : k < N
      · have hlt' : (k : Int) < (N : Int) := by omega
        have hk20 : (k : Int) ≤ 12 := by have := HNM.out; omega
        have hy : (97 : Int) + (k : Int) = ((97 + k : Nat) : Int) := by omega
        have hrd : Rd (wr.alloc (.cells #[.int .u8 ((97 + k : Nat) : Int)] 5)) (wr.heap.size + 1) (some ⟨wr.heap.size, 0, none⟩) 1 (bys [97 + k]) := Rd.lit wr #[.int .u8 ((97 + k : Nat) : Int)] 5 1 rfl
        have kcv := run_conv (P := Tryd.prog) 1 hrd 30 9 5 Tryd.underlying30 Tryd.underlying5 Tryd.underlying9
        have HAB : Hid (abc (k + 1) = abc k ++ [[97 + k]]) := Lib.hid rfl
        generalize hy2 : (97 + k : Nat) = y at *
        have hyl : (y : Int) ≤ 200 := by omega
        clear hy2
        have hX : Buf (wr.alloc (.cells #[.int .u8 (y : Int)] 5)) b u5 k (strs (abc k)) := HI.out.1.alloc _
        have HBR := HI.out.2
        have hbr2 : b ≤ (wr.alloc (.cells #[.int .u8 (y : Int)] 5)).heap.size := by simp; omega
        clear hrd
        go_wp2_with (at_builtin; refine wpList_append_one _ rfl (.tmp 30) (.tmp 36) 22 rfl b 9 i9 (.string ⟨#[]⟩) 16 Tryd.underlying22 hi hz0 hz1 hz2 rfl rfl hX ?a1 rfl ?b1 ?b2 hbr2 ?next)
        case a1 => rw [World.size_alloc]; rfl
        case b1 => unfold maxLen; omega
        case b2 => omega
        case next =>
          intro v' w' r1 r2 r3
          have hB1 := ((Below.refl b wr).alloc hbr (.cells #[.int .u8 (y : Int)] 5)).grown r2 hbr2 fun k hk => (hX.lt k hk).1
          have HBW2 := Lib.hid (HBR.trans hB1)
          have HR1 := Lib.hid r1
          clear r1 r2 r3 hX hB1 HBR
          go_wp2
          go_roundg (N - (k + 1))
          case measure => have := HK.out; omega
          case rel =>
            refine ⟨k + 1, by omega, rfl, by go_num, Lib.hid ⟨?_, HBW2.out⟩⟩
            rw [HAB.out]
            have := HR1.out
            simpa [strs] using this
      · obtain rfl : k = N := by omega
        have HBW := Lib.hid (HB1.out.trans (HI.out.2.mono (by have := HBE.out; omega)))
        have sw := HBW.out.size
        obtain ⟨A5, c5, rfl, _, hr5⟩ := HI.out.1.slice
        have HLa : Hid ((abc k).length = k) := Lib.hid (abc_len k)
        have HOK := Lib.hid (abc_ok k (by have := HNM.out; omega))
        have HMK := Lib.hid (fun W (hb : Below wr.heap.size wr W) => make_any A5 c5 (abc k) W (by rw [HLa.out]; exact (hr5.below hb).up hb.size) HOK.out (by rw [HLa.out]; have := HNM.out; omega) (HT.out.below (HBW.out.trans (hb.mono sw)) HT.out.1))
        rw [HLa.out] at HMK
        obtain ⟨F, hF⟩ : ∃ F, F = mkF (fsz k) (abc k) := ⟨_, rfl⟩
        have HLF : Hid (F.length = fsz k ∧ ∀ x ∈ F, x < 256) := Lib.hid (by rw [hF]; exact ⟨mkF_len _ _, mkF_lt _ _⟩)
        rw [← hF] at HMK
        clear hF
        have HFS : Hid (flt F = .agg #[.string (strB F)]) := Lib.hid rfl
        have HBY := Lib.hid (fun W => bytes_any F HLF.out.2 (by rw [HLF.out.1]; have := HFZ.out; omega) W)
        rw [HFS.out] at HMK HBY
        generalize strB F = FS at *
        have hk12 : (k : Int) ≤ 12 := by have := HNM.out; omega
        obtain ⟨S, hS⟩ : ∃ S, S = (10 * k + 7) / 8 := ⟨_, rfl⟩
        have hSi : (10 * (k : Int) + 7) / 8 = (S : Int) := by omega
        have hS9 : (8 : Int) < (S : Int) := by have := HFZ.out; omega
        have hS20 : (S : Int) ≤ 20 := by have := HFZ.out; omega
        have HFL : Hid (F.length = S) := Lib.hid (by rw [HLF.out.1, HFZ.out.1, hS])
        rw [HFL.out] at HBY
        clear hr5 hS
        go_wp2_with fail
        refine (HMK.out _ (Below.refl _ _)).mono ?_
        rintro e w2 ⟨rfl, hb2⟩
        have HB2 := Lib.hid hb2
        have s2 := hb2.size
        clear hb2
        go_upto_region 12 with fail
        have HB3 := Lib.hid (HB2.out.alloc s2 (.cells #[.string FS] 26))
        generalize w2.alloc (.cells #[.string FS] 26) = w3 at *
        go_wp2_with fail
        refine (HMK.out _ HB3.out).mono ?_
        rintro e w4 ⟨rfl, hb4⟩
        have HB4 := Lib.hid (HB3.out.trans (hb4.mono HB3.out.size))
        have s4 := HB4.out.size
        clear hb4
        go_upto_region 13 with fail
        have HB5 := Lib.hid (HB4.out.alloc s4 (.cells #[.string FS] 26))
        have c5 : (w4.alloc (.cells #[.string FS] 26)).cell? ⟨w4.heap.size, 0, none⟩ = some (.string FS) := by rw [World.cell?_alloc_mark]; rfl
        obtain ⟨gg, hgg⟩ : ∃ gg, gg = w4.heap.size := ⟨_, rfl⟩
        rw [← hgg] at c5 ⊢
        clear hgg
        generalize w4.alloc (.cells #[.string FS] 26) = w5 at *
        go_upto_region 15 with fail
        go_wp2_with fail
        refine (HBY.out _).mono ?_
        rintro e w8 ⟨A8, c8, rfl, _, _, hb8⟩
        have HB8 := Lib.hid (HBW.out.trans ((HB5.out.trans (hb8.mono HB5.out.size)).mono sw))
        have HR8 := Lib.hid ((HR.out.below HB8.out).up HB8.out.size)
        clear hb8 c5
        have HPE : Hid (prsV bs = if prs bs then .tuple #[flt (bs.drop 1), .int .i64 0] else .tuple #[flt [], .int .i64 2]) := Lib.hid rfl
        have HPB : Hid (prs bs = (decide (9 ≤ n) && decide (n ≤ 1048577) && decide (bs.getD 0 0 = 6))) := Lib.hid (by rw [prs, HBL.out])
        by_cases h9 : n < 9
        · have h9' : (n : Int) < 9 := by omega
          have h9d : decide ((9 : Int) ≤ (n : Int)) = false := by simp; omega
          have hp : prs bs = false := by rw [HPB.out, decide_eq_false (by omega)]; rfl
          have HV : Hid (prsV bs = .tuple #[.agg #[.string ⟨#[]⟩], .int .i64 2]) := Lib.hid (by rw [HPE.out, hp]; rfl)
          have HPA := Lib.hid (parse_any A n c bs w8 HR8.out HB.out (by omega) hnc HCM.out)
          rw [HV.out] at HPA
          clear hp HPE HPB
          go_wp2_with fail
          refine HPA.out.mono ?_
          rintro e w9 ⟨rfl, hb9⟩
          have HB9 := Lib.hid (HB8.out.trans (hb9.mono HB8.out.size))
          clear hb9 HPA
          go_wp2
          go_ret
          exact ⟨rfl, HB9.out.alloc HB9.out.size _⟩
        · have h9' : (9 : Int) ≤ (n : Int) := by omega
          by_cases h6 : bs.getD 0 0 = 6
          · have hp : prs bs = true := by rw [HPB.out, decide_eq_true (show 9 ≤ n by omega), decide_eq_true (show n ≤ 1048577 by omega), decide_eq_true h6]; rfl
            have HV : Hid (prsV bs = .tuple #[.agg #[.string (strB (bs.drop 1))], .int .i64 0]) := Lib.hid (by rw [HPE.out, hp]; rfl)
            generalize strB (bs.drop 1) = BS at *
            have HPA := Lib.hid (parse_any A n c bs w8 HR8.out HB.out (by omega) hnc HCM.out)
            rw [HV.out] at HPA
            clear hp HPE HPB
            go_wp2_with fail
            refine HPA.out.mono ?_
            rintro e w9 ⟨rfl, hb9⟩
            have HB9 := Lib.hid (HB8.out.trans (hb9.mono HB8.out.size))
            clear hb9 HPA
            obtain ⟨g, off, u, e0, hgB, hu, hcell⟩ := (HR.out.below (HB9.out.alloc HB9.out.size (.cells #[.string BS] 26))).at_ (k := 0) (by omega)
            subst e0
            rw [bys_get bs 0 (by have := HBL.out; omega)] at hu
            injection hu with hu
            subst hu
            rw [Nat.add_zero] at hcell
            have hb0 := getD_lt HB.out 0
            rw [h6] at hcell
            go_wp2
            go_ret
            exact ⟨rfl, HB9.out.alloc HB9.out.size _⟩
          · have hp : prs bs = false := by rw [HPB.out, decide_eq_false h6, Bool.and_false]
            have HV : Hid (prsV bs = .tuple #[.agg #[.string ⟨#[]⟩], .int .i64 2]) := Lib.hid (by rw [HPE.out, hp]; rfl)
            have HPA := Lib.hid (parse_any A n c bs w8 HR8.out HB.out (by omega) hnc HCM.out)
            rw [HV.out] at HPA
            clear hp HPE HPB
            go_wp2_with fail
            refine HPA.out.mono ?_
            rintro e w9 ⟨rfl, hb9⟩
            have HB9 := Lib.hid (HB8.out.trans (hb9.mono HB8.out.size))
            clear hb9 HPA
            obtain ⟨g, off, u, e0, hgB, hu, hcell⟩ := (HR.out.below (HB9.out.alloc HB9.out.size (.cells #[.string ⟨#[]⟩] 26))).at_ (k := 0) (by omega)
            subst e0
            rw [bys_get bs 0 (by have := HBL.out; omega)] at hu
            injection hu with hu
            subst hu
            rw [Nat.add_zero] at hcell
            have hb0 := getD_lt HB.out 0
            generalize bs.getD 0 0 = xx at *
            have h6' : ((xx : Int) == 6) = false := by simp; omega
            go_wp2
            go_ret
            exact ⟨rfl, HB9.out.alloc HB9.out.size _⟩
end Go.Proofs.YtajgmadohhagkaaDoor
