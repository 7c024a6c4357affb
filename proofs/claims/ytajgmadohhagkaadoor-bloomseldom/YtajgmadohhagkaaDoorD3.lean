/- The walk of BloomSeldom. -/
import Derived.Test.YtajgmadohhagkaaDoorC6
import Derived.Test.YtajgmadohhagkaaDoorD2
import Derived.Test.YtajgmadohhagkaaDoorShelf
namespace Go.Proofs.YtajgmadohhagkaaDoor
set_option linter.unusedSimpArgs false
set_option linter.unusedVariables false
open Go.RowKit

theorem i64_and31 (n : Int) : bits .and .i64 n 31 = n % 32 := by
  have h63 : (BitVec.ofInt 64 31).toNat = 2 ^ 5 - 1 := by decide
  have key : (BitVec.ofInt 64 n &&& BitVec.ofInt 64 31).toNat = (n % ((2 ^ 64 : Nat) : Int)).toNat % 2 ^ 5 := by
    rw [BitVec.toNat_and, BitVec.toNat_ofInt, h63, Nat.and_two_pow_sub_one_eq_mod]
  show IntKind.i64.wrap ((BitVec.ofInt 64 n &&& BitVec.ofInt 64 31).toNat : Nat) = n % 32
  rw [key, IntKind.wrap_i64]
  omega

set_option maxHeartbeats 2000000 in
set_option maxRecDepth 100000 in
theorem seldom_walk (x : Int) (w : World) (ht : TabAt w) :
    Calls Tryd.prog 6 #[.int .i64 x] w fun e w' => e = .returned (.bool true) ∧ Below w.heap.size w w' := by
  obtain ⟨i9, hi, hz0, hz1, hz2⟩ := info_parts Tryd.info9
  have HT := Lib.hid ht
  clear ht
  obtain ⟨m, hm, hx⟩ : ∃ m : Nat, m < 32 ∧ bits .and .i64 x 31 = (m : Int) := ⟨(x % 32).toNat, by omega, by rw [i64_and31]; omega⟩
  obtain ⟨N, hN⟩ : ∃ N, N = 20 + m := ⟨_, rfl⟩
  have HSE := Lib.hid (seldom m hm)
  rw [← hN] at HSE
  have hmN : (20 : Int) + (m : Int) = (N : Int) := by omega
  have hN51 : (N : Int) ≤ 51 := by omega
  have hx120 : strB [120] = { data := #[120] } := rfl
  have hx121 : strB [121] = { data := #[121] } := rfl
  have hkey : strB [107, 101, 121] = { data := #[107, 101, 121] } := rfl
  have hoth : strB [111, 116, 104, 101, 114] = { data := #[111, 116, 104, 101, 114] } := rfl
  have HRX := Lib.hid (fun (k : Nat) (hk : k ≤ 1000000) W => rep_any 120 (by decide) k hk W)
  have HRY := Lib.hid (fun (k : Nat) (hk : k ≤ 1000000) W => rep_any 121 (by decide) k hk W)
  have HKX := Lib.hid (fun k => show ({ data := #[107, 101, 121] } : ByteArray) ++ strB (List.replicate k 120) = strB (kx k) from by rw [← hkey, strB_app]; rfl)
  have HKY := Lib.hid (fun k => show ({ data := #[111, 116, 104, 101, 114] } : ByteArray) ++ strB (List.replicate k 121) = strB (ky k) from by rw [← hoth, strB_app]; rfl)
  rw [hx120] at HRX
  rw [hx121] at HRY
  clear hN hx120 hx121 hkey hoth
  go_enter Tryd.func6, Tryd.ntmps6
  go_upto_region 3 with (go_at_call 8; refine (head_any _ HT.out).mono ?_; rintro e w1 ⟨rfl, hb1⟩)
  have HB1 := Lib.hid hb1
  have s1 := hb1.size
  clear hb1
  go_upto_region 5 with fail
  clear hx
  obtain ⟨b, hb⟩ : ∃ b, b = w1.heap.size := ⟨_, rfl⟩
  have X0 : Buf (w1.alloc (.cells #[] 9)) b (.slice (some ⟨b, 0, none⟩) 0 0) 0 (strs (kxs 0)) := by
    rw [hb]
    exact Buf.new w1 w1.heap.size 9 #[] (0, 0) (Nat.le_refl _) (by unfold maxLen; simp)
  have Y0 : Below b w1 (w1.alloc (.cells #[] 9)) := by rw [hb]; exact (Below.refl _ _).alloc (Nat.le_refl _) _
  have HX0 := Lib.hid X0
  have HY0 := Lib.hid Y0
  have sb : w.heap.size ≤ b := by rw [hb]; exact s1
  have HBE := Lib.hid hb
  rw [← hb]
  clear X0 Y0 hb
  generalize w1.alloc (.cells #[] 9) = w5 at *
  go_upto_region 6 with fail
  go_loopg [3, 4] N (fun kx' v3 v4 wr => ∃ k : Nat, k ≤ N ∧ kx' = N - k ∧ v4 = .int .i64 (k : Int) ∧ Hid (Buf wr b v3 k (strs (kxs k)) ∧ Below b w1 wr))
  case atStart => exact ⟨0, Nat.zero_le _, rfl, rfl, Lib.hid ⟨HX0.out, HY0.out⟩⟩
  case round =>
    obtain ⟨k, hk, hkx, rfl, HI⟩ := hrel
    have HK := Lib.hid hkx
    clear hkx HX0 HY0
    have hbr : b ≤ wr.heap.size := by have := HI.out.2.size; have := HBE.out; omega
    by_cases hlt : k < N
    · have hlt' : (k : Int) < (N : Int) := by omega
      have HR := Lib.hid (HRX.out k (by omega) wr)
      have hcat := HKX.out k
      have hsz : ¬ 9223372036854775807 < 3 + (strB (List.replicate k 120)).size := by rw [strB_size]; simp; omega
      have HAB : Hid (kxs (k + 1) = kxs k ++ [kx k]) := Lib.hid rfl
      generalize strB (List.replicate k 120) = RS at *
      generalize hkk : kx k = K at *
      have HKK := Lib.hid hkk
      clear hkk
      go_wp2_with fail
      refine HR.out.mono ?_
      rintro e w6 ⟨rfl, hb6⟩
      have hX : Buf w6 b u3 k (strs (kxs k)) := HI.out.1.below hb6 (fun k' hk' => (HI.out.1.lt k' hk').2)
      have HBR := Lib.hid (HI.out.2.trans (hb6.mono hbr))
      have hbr6 : b ≤ w6.heap.size := Nat.le_trans hbr hb6.size
      clear hb6 HR
      go_wp2_with (at_builtin; refine wpList_append_one _ rfl (.tmp 20) (.tmp 24) 22 rfl b 9 i9 (.string ⟨#[]⟩) 16 Tryd.underlying22 hi hz0 hz1 hz2 rfl rfl hX rfl rfl ?b1 ?b2 hbr6 ?next)
      case b1 => unfold maxLen; omega
      case b2 => omega
      case next =>
        intro v' w' r1 r2 r3
        have hB1 := (Below.refl b w6).grown r2 hbr6 fun k hk => (hX.lt k hk).1
        have HBW2 := Lib.hid (HBR.out.trans hB1)
        have HR1 := Lib.hid r1
        clear r1 r2 r3 hX hB1 HBR
        go_wp2
        go_roundg (N - (k + 1))
        case measure => have := HK.out; omega
        case rel =>
          refine ⟨k + 1, by omega, rfl, by go_num, Lib.hid ⟨?_, HBW2.out⟩⟩
          rw [HAB.out]
          have := HR1.out
          simpa [strs] using this
    · obtain rfl : k = N := by omega
      have HBW := Lib.hid (HB1.out.trans (HI.out.2.mono (by have := HBE.out; omega)))
      have sw := HBW.out.size
      obtain ⟨A5, c5, rfl, _, hr5⟩ := HI.out.1.slice
      have HLa : Hid ((kxs k).length = k) := Lib.hid (kxs_len k)
      have HMK := Lib.hid (make_any A5 c5 (kxs k) wr (by rw [HLa.out]; exact hr5) (fun s hs => ⟨(kxs_ok k s hs).1, by have := (kxs_ok k s hs).2; omega⟩) (by rw [HLa.out]; omega) (HT.out.below HBW.out HT.out.1))
      rw [HLa.out] at HMK
      obtain ⟨F, hF⟩ : ∃ F, F = mkF (fsz k) (kxs k) := ⟨_, rfl⟩
      have HLF : Hid (F.length = fsz k ∧ ∀ x ∈ F, x < 256) := Lib.hid (by rw [hF]; exact ⟨mkF_len _ _, mkF_lt _ _⟩)
      rw [← hF] at HMK HSE
      clear hF
      have hfz : (fsz k : Int) ≤ 100 := by unfold fsz; omega
      have HFS : Hid (flt F = .agg #[.string (strB F)]) := Lib.hid rfl
      have HMAY := Lib.hid (fun j (hj : j ≤ 200) W (hb : Below w.heap.size w W) => may_any F (ky j) HLF.out.2 (by rw [HLF.out.1]; omega) (ky_ok j).1 (by have := (ky_ok j).2; omega) W (HT.out.below hb HT.out.1))
      rw [HFS.out] at HMK HMAY
      generalize strB F = FS at *
      clear hr5
      go_wp2_with fail
      refine HMK.out.mono ?_
      rintro e w6 ⟨rfl, hb6⟩
      have HB6 := Lib.hid (HBW.out.trans (hb6.mono sw))
      have s6 := HB6.out.size
      clear hb6 HMK
      go_upto_region 12 with fail
      obtain ⟨w8, hw8⟩ : ∃ w8, w8 = w6.alloc (.cells #[.string FS] 26) := ⟨_, rfl⟩
      rw [← hw8]
      have HB8 : Hid (Below w.heap.size w w8) := by rw [hw8]; exact Lib.hid (HB6.out.alloc s6 _)
      obtain ⟨gf, hgf⟩ : ∃ gf, gf = w6.heap.size := ⟨_, rfl⟩
      have cf8 : w8.cell? ⟨gf, 0, none⟩ = some (.string FS) := by rw [hw8, hgf, World.cell?_alloc_mark]; rfl
      rw [← hgf]
      have HCF := Lib.hid cf8
      have z8 : gf < w8.heap.size := World.block_lt_of_cell? _ _ cf8
      clear hw8 hgf cf8
      go_upto_region 14 with fail
      go_loopg [7, 8] 200 (fun kx' v7 v8 wr => ∃ j : Nat, j ≤ 200 ∧ kx' = 200 - j ∧ v8 = .int .i64 (j : Int) ∧ v7 = .int .i64 ((hits F j : Nat) : Int) ∧ Hid (hits F j ≤ j) ∧ Hid (Below w8.heap.size w8 wr))
      case atStart => exact ⟨0, Nat.zero_le _, rfl, rfl, rfl, Lib.hid (Nat.le_refl _), Lib.hid (Below.refl _ _)⟩
      case round =>
        obtain ⟨j, hj, hkx, rfl, rfl, HH, HW⟩ := hrel
        have HJ := Lib.hid hkx
        clear hkx
        have hh := HH.out
        by_cases hlj : j < 200
        · have hlj' : (j : Int) < 200 := by omega
          have HHS : Hid (hits F (j + 1) = hits F j + (if mayB F (ky j) then 1 else 0)) := Lib.hid rfl
          have HR := Lib.hid (HRY.out j (by omega))
          have hcat := HKY.out j
          have hsz : ¬ 9223372036854775807 < 5 + (strB (List.replicate j 121)).size := by rw [strB_size]; simp; omega
          have HM := Lib.hid (HMAY.out j (by omega))
          have HB0 := Lib.hid (fun W (hb : Below w8.heap.size w8 W) => HB8.out.trans (hb.mono HB8.out.size))
          generalize strB (List.replicate j 121) = RS at *
          generalize strB (ky j) = KS at *
          generalize mayB F (ky j) = ok at *
          have cf := (HW.out.cell (p := ⟨gf, 0, none⟩) z8).trans HCF.out
          have KEEP := Lib.hid (fun (wx wy : World) (h : wx.cell? ⟨gf, 0, none⟩ = some (.string FS) ∧ Below w8.heap.size w8 wx) (hb : Below wx.heap.size wx wy) =>
            (⟨(hb.cell (p := ⟨gf, 0, none⟩) (Nat.lt_of_lt_of_le z8 h.2.size)).trans h.1, h.2.trans (hb.mono h.2.size)⟩ : wy.cell? ⟨gf, 0, none⟩ = some (.string FS) ∧ Below w8.heap.size w8 wy))
          have hw8r : Below w8.heap.size w8 wr.drew := HW.out.drew
          go_upto_region 16 with fail
          refine wp_region_noPanic ?_
          refine wp_region_held_drew (S := (fun wx => wx.cell? ⟨gf, 0, none⟩ = some (.string FS) ∧ Below w8.heap.size w8 wx)) (by kernel_rfl) (⟨cf, hw8r⟩) (fun hHeld => ?_)
          refine wpAnyH_take (i := 0) (v := ?_) (by simp only [List.getElem?_toArray, List.getElem?_cons_succ, List.getElem?_cons_zero]; rfl) (by kernel_rfl) (by kernel_rfl) (by kernel_rfl) (fun _ _ _ h => h) (Or.inl ⟨by rfl, ?_⟩) (by assumption) ?_
          rotate_left
          · (intro w hSw; (try dsimp only at hSw); go_simp; (try with_reducible rfl))
          (try simp only [Act.put, List.setIfInBounds_toArray, List.set_cons_zero, List.set_cons_succ])
          refine wpAnyH_take (i := 1) (v := ?_) (by simp only [List.getElem?_toArray, List.getElem?_cons_succ, List.getElem?_cons_zero]; rfl) (by kernel_rfl) (by kernel_rfl) (by kernel_rfl) (fun _ _ _ h => h) (Or.inl ⟨by rfl, ?_⟩) (by assumption) ?_
          rotate_left
          · (intro w hSw; (try dsimp only at hSw); go_simp; (try with_reducible rfl))
          (try simp only [Act.put, List.setIfInBounds_toArray, List.set_cons_zero, List.set_cons_succ])
          refine wpAnyH_ready (rs := [2]) (by kernel_rfl) (by simp) ?_
          refine AllReadyH.cons (by simp only [List.getElem?_toArray, List.getElem?_cons_succ, List.getElem?_cons_zero]; rfl) (fun K hK => ?_) AllReadyH.nil
          go_simp
          refine (HR.out _).mono ?_
          rintro ee w9 ⟨rfl, hb9⟩
          refine hK.out _ _ ?_ (fun hHeld => ?_)
          · exact KEEP.out _ _ hHeld hb9
          clear hK K
          (try simp only [Act.put, List.setIfInBounds_toArray, List.set_cons_zero, List.set_cons_succ])
          refine wpAnyH_take (i := 3) (v := ?_) (by simp only [List.getElem?_toArray, List.getElem?_cons_succ, List.getElem?_cons_zero]; rfl) (by kernel_rfl) (by kernel_rfl) (by kernel_rfl) (fun _ _ _ h => h) (Or.inl ⟨by rfl, ?_⟩) (by assumption) ?_
          rotate_left
          · (intro w hSw; (try dsimp only at hSw); go_simp; (try with_reducible rfl))
          (try simp only [Act.put, List.setIfInBounds_toArray, List.set_cons_zero, List.set_cons_succ])
          refine wpAnyH_ready (rs := [4]) (by kernel_rfl) (by simp) ?_
          refine AllReadyH.cons (by simp only [List.getElem?_toArray, List.getElem?_cons_succ, List.getElem?_cons_zero]; rfl) (fun K hK => ?_) AllReadyH.nil
          go_simp
          refine (HM.out _ (HB0.out _ hHeld.2)).mono ?_
          rintro ee w10 ⟨rfl, hb10⟩
          refine hK.out _ _ ?_ (fun hHeld => ?_)
          · exact KEEP.out _ _ hHeld hb10
          clear hK K
          (try simp only [Act.put, List.setIfInBounds_toArray, List.set_cons_zero, List.set_cons_succ])
          refine wpAnyH_done (by kernel_rfl) ?_ _
          refine NoPanic.normal ?_
          have HW2 := Lib.hid hHeld.2
          clear hHeld cf hw8r hb9 hb10 hcat hsz
          generalize hh1 : hits F j = h0 at *
          cases ok with
          | true =>
            have HE : Hid (hits F (j + 1) = h0 + 1) := Lib.hid HHS.out
            clear HHS
            go_wp2
            go_roundg (200 - (j + 1))
            case measure => have := HJ.out; omega
            case rel => exact ⟨j + 1, by omega, rfl, by go_num, by rw [HE.out]; go_num, Lib.hid (by rw [HE.out]; omega), HW2⟩
          | false =>
            have HE : Hid (hits F (j + 1) = h0) := Lib.hid (HHS.out.trans (Nat.add_zero _))
            clear HHS
            go_wp2
            go_roundg (200 - (j + 1))
            case measure => have := HJ.out; omega
            case rel => exact ⟨j + 1, by omega, rfl, by go_num, by rw [HE.out], Lib.hid (by rw [HE.out]; omega), HW2⟩
        · obtain rfl : j = 200 := by omega
          have hse := HSE.out
          have HF := Lib.hid (HB8.out.trans (HW.out.mono HB8.out.size))
          generalize hits F 200 = h0 at *
          have hse' : (h0 : Int) < 60 := by omega
          go_wp2
          go_ret
          exact ⟨by simp, HF.out⟩
end Go.Proofs.YtajgmadohhagkaaDoor
