/- The walk of DiskFuses. -/
import Derived.Test.YtahbhaphodgomaaE7
namespace Go.Proofs.Ytahbhaphodgomaa
set_option linter.unusedSimpArgs false
set_option linter.unusedVariables false
open Go.RowKit Go.Maps

def nm (h : Nat) : List UInt8 := [UInt8.ofNat (97 + h)]
def fstep (s : DS) (j : Nat) : DS × Nat := if j % 2 = 0 then s.create (nm (j / 2)) else s.append (nm (j / 2)) [1]
def stF (n : Nat) : Nat → DS × Nat
  | 0 => (⟨[], 1000, n, false⟩, 0)
  | j + 1 => ((fstep (stF n j).1 j).1, if (fstep (stF n j).1 j).2 = 0 then (stF n j).2 + 1 else (stF n j).2)
theorem stF_vals : ∀ n : Fin 16, ∀ j : Fin 20, ((fstep (stF (n + 1) j).1 j).2 = 0 ∨ (fstep (stF (n + 1) j).1 j).2 = 10) ∧ (stF (n + 1) j).1.all.length ≤ 20 ∧ (stF (n + 1) j).2 ≤ 20 := by decide +kernel
theorem stF_end : ∀ n : Fin 16, (stF (n + 1) 20).2 = n.val ∧ (stF (n + 1) 20).1.down = true ∧ (stF (n + 1) 20).1.all.length ≤ 20 ∧ ((stF (n + 1) 20).1.crash [1, 1, 1, 1, 1, 1, 1, 1, 1, 1]).all.length = (n.val + 1) / 2 ∧ usedA ((stF (n + 1) 20).1.crash [1, 1, 1, 1, 1, 1, 1, 1, 1, 1]).all = n.val / 2 := by decide +kernel

theorem i64_and4 (n : Int) : bits .and .i64 n 15 = n % 16 := by
  have h63 : (BitVec.ofInt 64 15).toNat = 2 ^ 4 - 1 := by decide
  have key : (BitVec.ofInt 64 n &&& BitVec.ofInt 64 15).toNat = (n % ((2 ^ 64 : Nat) : Int)).toNat % 2 ^ 4 := by
    rw [BitVec.toNat_and, BitVec.toNat_ofInt, h63, Nat.and_two_pow_sub_one_eq_mod]
  show IntKind.i64.wrap ((BitVec.ofInt 64 n &&& BitVec.ofInt 64 15).toNat : Nat) = n % 16
  rw [key, IntKind.wrap_i64]
  omega
theorem conv_nm (w : World) (h : Nat) : (convert 29 9 (.slice (some ⟨w.heap.size, 0, none⟩) 1 1)).run Try.prog (w.alloc (.cells #[.int .u8 (97 + (h : Int))] 5)) = .ok (.string ⟨(nm h).toArray⟩) (w.alloc (.cells #[.int .u8 (97 + (h : Int))] 5)) := by
  have hr := Rd.lit w #[.int .u8 (97 + (h : Int))] 5 1 rfl
  have e : (#[Value.int .u8 (97 + (h : Int))]).toList = bys [97 + h] := by simp [bys]
  rw [e] at hr
  exact run_conv (P := Try.prog) 1 hr 29 9 5 Try.underlying29 Try.underlying5 Try.underlying9

set_option maxHeartbeats 4000000 in
set_option maxRecDepth 100000 in
theorem fuses_walk (x : Int) (w : World) : Calls Try.prog 8 #[.int .i64 x] w fun e w' => e = .returned (.bool true) ∧ Below w.heap.size w w' := by
  obtain ⟨K, hK, hKe⟩ : ∃ K : Nat, K < 16 ∧ bits .and .i64 x 15 = (K : Int) := ⟨(x % 16).toNat, by omega, by rw [i64_and4]; omega⟩
  have HV : Hid (∀ j, j < 20 → ((fstep (stF (K + 1) j).1 j).2 = 0 ∨ (fstep (stF (K + 1) j).1 j).2 = 10) ∧ (stF (K + 1) j).1.all.length ≤ 20 ∧ (stF (K + 1) j).2 ≤ 20) := Lib.hid (fun j hj => stF_vals ⟨K, hK⟩ ⟨j, hj⟩)
  have HE := Lib.hid (stF_end ⟨K, hK⟩)
  go_enter Try.func8, Try.ntmps8
  go_wp2_with fail
  refine (head_any _).mono ?_
  rintro e w0 ⟨rfl, hb0⟩
  have hz0 := hb0.size
  go_wp2_with fail
  refine (new_any 1000 w0 (by decide) w.heap.size hz0).mono ?_
  rintro e w1 ⟨rfl, hd1, hb1⟩
  have hbw1 := hb0.trans (hb1.mono hz0)
  have hz1 := hbw1.size
  generalize hgd : w0.heap.size = gd at *
  clear hgd
  have HFu := Lib.hid (fuse_any w1 _ _ _ _ (1 + (K : Int)) hd1 (by omega))
  go_wp2_with fail
  refine HFu.out.mono ?_
  rintro e w2 ⟨rfl, hn2⟩
  obtain ⟨L2, hd2, hbw2, hz2⟩ := hn2.go hd1 hbw1 hz1
  have hst : (⟨[], clamp 1000, 0, false⟩ : DS).setFuse (1 + (K : Int)) = (stF (K + 1) 0).1 := by
    have : (1 + (K : Int)).toNat = K + 1 := by omega
    simp [DS.setFuse, stF, this]
    rfl
  rw [hst] at hd2
  clear HFu hn2 hd1 hb1 hbw1 hst
  go_wp2_with fail
  go_loopg [4, 5] 20 (fun k dv i wr => ∃ (j : Nat) (L : List Nat), k = 20 - j ∧ j ≤ 20 ∧ i = .int .i64 (j : Int) ∧ dv = .int .i64 (((stF (K + 1) j).2 : Nat) : Int) ∧ Dk wr w.heap.size gd L (stF (K + 1) j).1 ∧ Below w.heap.size w wr)
  case atStart => exact ⟨0, L2, rfl, by omega, rfl, rfl, hd2, hbw2⟩
  case round =>
    clear hd2 hbw2
    obtain ⟨j, L, hk, hj, rfl, rfl, hdk, hbw⟩ := hrel
    have HK := Lib.hid hk
    clear hk
    have hz := hbw.size
    by_cases hlt : j < 20
    · have hlt' : (j : Int) < 20 := by omega
      obtain ⟨hv1, hv2, hv3⟩ := HV.out j hlt
      have hq1 : (j : Int).tdiv 2 = ((j / 2 : Nat) : Int) := by rw [Int.tdiv_eq_ediv_of_nonneg (by omega)]; omega
      have hq2 : (j : Int) / 2 = ((j / 2 : Nat) : Int) := by omega
      have hhb : ((j / 2 : Nat) : Int) < 10 := by omega
      have hwu : IntKind.u8.wrap (97 + ((j / 2 : Nat) : Int)) = 97 + ((j / 2 : Nat) : Int) := by rw [IntWalk.u8_in _ (by omega)]
      have hcv := conv_nm wr (j / 2)
      have hba := hbw.alloc hz (.cells #[.int .u8 (97 + ((j / 2 : Nat) : Int))] 5)
      have hda := hdk.below ((Below.refl _ _).alloc (Nat.le_refl _) (.cells #[.int .u8 (97 + ((j / 2 : Nat) : Int))] 5))
      have hstj : stF (K + 1) (j + 1) = ((fstep (stF (K + 1) j).1 j).1, if (fstep (stF (K + 1) j).1 j).2 = 0 then (stF (K + 1) j).2 + 1 else (stF (K + 1) j).2) := rfl
      have HSJ := Lib.hid hstj
      clear hstj
      generalize (stF (K + 1) j).2 = dn at *
      have hfs : fstep (stF (K + 1) j).1 j = if j % 2 = 0 then (stF (K + 1) j).1.create (nm (j / 2)) else (stF (K + 1) j).1.append (nm (j / 2)) [1] := rfl
      by_cases hev : j % 2 = 0
      · have hr1 : (j : Int).tmod 2 = 0 := by rw [Int.tmod_eq_emod_of_nonneg (by omega)]; omega
        have hr2 : (j : Int) % 2 = 0 := by omega
        rw [if_pos hev] at hfs
        rw [hfs] at HSJ hv1
        have HC := create_any _ _ _ _ _ (nm (j / 2)) hda (by simp [nm]) hba.size (by omega)
        generalize (stF (K + 1) j).1.create (nm (j / 2)) = R at *
        obtain ⟨R1, R2⟩ := R
        unfold str at HC
        have HC := Lib.hid HC
        generalize j / 2 = h at *
        rcases hv1 with rfl | rfl
        · go_wp2_with fail
          refine HC.out.mono ?_
          rintro e w3 ⟨rfl, hn3⟩
          obtain ⟨L3, hd3, hbw3, hz3⟩ := hn3.go hda hba hba.size
          clear hn3
          go_wp2_with fail
          go_roundg (20 - (j + 1))
          case measure => have := HK.out; omega
          case rel => exact ⟨j + 1, L3, rfl, by omega, by go_num, by rw [HSJ.out]; simp, by rw [HSJ.out]; exact hd3, hbw3⟩
        · go_wp2_with fail
          refine HC.out.mono ?_
          rintro e w3 ⟨rfl, hn3⟩
          obtain ⟨L3, hd3, hbw3, hz3⟩ := hn3.go hda hba hba.size
          clear hn3
          go_wp2_with fail
          go_roundg (20 - (j + 1))
          case measure => have := HK.out; omega
          case rel => exact ⟨j + 1, L3, rfl, by omega, by go_num, by rw [HSJ.out]; simp, by rw [HSJ.out]; exact hd3, hbw3⟩
      · have hr1 : (j : Int).tmod 2 = 1 := by rw [Int.tmod_eq_emod_of_nonneg (by omega)]; omega
        have hr2 : (j : Int) % 2 = 1 := by omega
        rw [if_neg hev] at hfs
        rw [hfs] at HSJ hv1
        have hz5 : (wr.alloc (.cells #[.int .u8 (97 + ((j / 2 : Nat) : Int))] 5)).heap.size = wr.heap.size + 1 := by simp
        have hba2 := hba.alloc hba.size (.cells #[.int .u8 1] 5)
        have hda2 := hda.below ((Below.refl _ _).alloc (Nat.le_refl _) (.cells #[.int .u8 1] 5))
        have hrl := Rd.lit (wr.alloc (.cells #[.int .u8 (97 + ((j / 2 : Nat) : Int))] 5)) #[.int .u8 1] 5 1 rfl
        have HC := append_any _ _ _ _ _ (nm (j / 2)) (some ⟨(wr.alloc (.cells #[.int .u8 (97 + ((j / 2 : Nat) : Int))] 5)).heap.size, 0, none⟩) 1 1 [1] hda2 (by simp [nm]) hba2.size (hrl.up (by simp)) (by decide) (by decide) (by intro g off e _; injection e with e; injection e with e; exact hda.fresh (by omega))
        rw [hz5] at HC
        generalize (stF (K + 1) j).1.append (nm (j / 2)) [1] = R at *
        obtain ⟨R1, R2⟩ := R
        unfold str at HC
        have HC := Lib.hid HC
        clear hrl hz5
        generalize j / 2 = h at *
        rcases hv1 with rfl | rfl
        · go_wp2_with fail
          refine HC.out.mono ?_
          rintro e w3 ⟨rfl, hn3⟩
          obtain ⟨L3, hd3, hbw3, hz3⟩ := hn3.go hda2 hba2 hba2.size
          clear hn3
          go_wp2_with fail
          go_roundg (20 - (j + 1))
          case measure => have := HK.out; omega
          case rel => exact ⟨j + 1, L3, rfl, by omega, by go_num, by rw [HSJ.out]; simp, by rw [HSJ.out]; exact hd3, hbw3⟩
        · go_wp2_with fail
          refine HC.out.mono ?_
          rintro e w3 ⟨rfl, hn3⟩
          obtain ⟨L3, hd3, hbw3, hz3⟩ := hn3.go hda2 hba2 hba2.size
          clear hn3
          go_wp2_with fail
          go_roundg (20 - (j + 1))
          case measure => have := HK.out; omega
          case rel => exact ⟨j + 1, L3, rfl, by omega, by go_num, by rw [HSJ.out]; simp, by rw [HSJ.out]; exact hd3, hbw3⟩
    · obtain rfl : j = 20 := by omega
      have f1 : (stF (K + 1) 20).2 = K := HE.out.1
      have f2 : (stF (K + 1) 20).1.down = true := HE.out.2.1
      have f3 : (stF (K + 1) 20).1.all.length ≤ 20 := HE.out.2.2.1
      have F4 : Hid (((stF (K + 1) 20).1.crash [1, 1, 1, 1, 1, 1, 1, 1, 1, 1]).all.length = (K + 1) / 2) := Lib.hid HE.out.2.2.2.1
      have F5 : Hid (usedA ((stF (K + 1) 20).1.crash [1, 1, 1, 1, 1, 1, 1, 1, 1, 1]).all = K / 2) := Lib.hid HE.out.2.2.2.2
      rw [f1]
      clear f1 HE HV
      generalize (stF (K + 1) 20).1 = sF at *
      have HDn := Lib.hid (down_any wr _ _ _ _ hdk)
      rw [f2] at HDn
      have HLs := Lib.hid (list_any wr _ _ _ _ hdk (by omega))
      simp only [f2, if_true] at HLs
      clear f2 hlt hj
      have hKb : (K : Int) < 16 := by omega
      have hq5 : (1 + (K : Int)) - 1 = (K : Int) := by omega
      clear hK
      go_wp2_with fail
      refine HDn.out.mono ?_
      rintro e w3 ⟨rfl, rfl⟩
      go_wp2_with fail
      refine HLs.out.mono ?_
      rintro e w4 ⟨v4, rfl, hbuf4, hb4⟩
      have hd4 := hdk.below hb4
      have hbw4 := hbw.trans (hb4.mono hz)
      have hz4 := hbw4.size
      obtain ⟨A4, c4, rfl, _, _⟩ := hbuf4.slice
      have hba := hbw4.alloc hz4 (.cells #[.int .i64 1, .int .i64 1, .int .i64 1, .int .i64 1, .int .i64 1, .int .i64 1, .int .i64 1, .int .i64 1, .int .i64 1, .int .i64 1] 3)
      have hda := hd4.below ((Below.refl _ _).alloc (Nat.le_refl _) (.cells #[.int .i64 1, .int .i64 1, .int .i64 1, .int .i64 1, .int .i64 1, .int .i64 1, .int .i64 1, .int .i64 1, .int .i64 1, .int .i64 1] 3))
      have hrl := Rd.lit w4 #[.int .i64 1, .int .i64 1, .int .i64 1, .int .i64 1, .int .i64 1, .int .i64 1, .int .i64 1, .int .i64 1, .int .i64 1, .int .i64 1] 3 10 rfl
      have HCr := Lib.hid (crash_any _ _ _ _ _ (some ⟨w4.heap.size, 0, none⟩) 10 10 [1, 1, 1, 1, 1, 1, 1, 1, 1, 1] hda hba.size (by omega) (hrl.up (by simp)) (by decide) (Nat.le_refl _) (by unfold maxLen; omega) (by intro g off e _; injection e with e; injection e with e; exact hd4.fresh (by omega)))
      clear hbuf4 HDn HLs hrl hd4
      go_wp2_with fail
      refine HCr.out.mono ?_
      rintro e w5 ⟨rfl, hn5⟩
      obtain ⟨L5, hd5, hbw5, hz5⟩ := hn5.go hda hba hba.size
      have hdn5 : (sF.crash [1, 1, 1, 1, 1, 1, 1, 1, 1, 1]).down = false := rfl
      generalize sF.crash [1, 1, 1, 1, 1, 1, 1, 1, 1, 1] = sC at *
      have HLs := Lib.hid (list_any w5 _ _ _ _ hd5 (by rw [F4.out]; omega))
      simp only [hdn5, F4.out] at HLs
      have HDN5 := Lib.hid hdn5
      clear hdn5
      clear HCr hn5 hda
      have hq1 : (1 + (K : Int)).tdiv 2 = (((K + 1) / 2 : Nat) : Int) := by rw [Int.tdiv_eq_ediv_of_nonneg (by omega)]; omega
      have hq2 : (1 + (K : Int)) / 2 = (((K + 1) / 2 : Nat) : Int) := by omega
      have hq3 : (K : Int).tdiv 2 = ((K / 2 : Nat) : Int) := by rw [Int.tdiv_eq_ediv_of_nonneg (by omega)]; omega
      have hq4 : (K : Int) / 2 = ((K / 2 : Nat) : Int) := by omega
      generalize (K + 1) / 2 = G at *
      generalize K / 2 = G2 at *
      go_wp2_with fail
      refine HLs.out.mono ?_
      rintro e w6 ⟨v6, rfl, hbuf6, hb6⟩
      have hd6 := hd5.below hb6
      have hbw6 := hbw5.trans (hb6.mono hz5)
      have hz6 := hbw6.size
      obtain ⟨A6, c6, ev6, _, _⟩ := hbuf6.slice
      have ev : v6 = .slice A6 G c6 := by simpa using ev6
      subst ev
      have HU := Lib.hid hd6.used
      rw [F5.out] at HU
      have HDn := Lib.hid (fun wx (hb : Below w6.heap.size w6 wx) => down_any wx _ _ _ _ (hd6.below hb))
      clear hbuf6 ev6 HLs hd5
      go_wp2_with fail
      refine HU.out.mono ?_
      rintro e w7 ⟨rfl, hb7⟩
      have hbw7 := hbw6.trans (hb7.mono hz6)
      have HDn7 := HDn.out w7 hb7
      rw [HDN5.out] at HDn7
      clear HU HDn hd6
      go_wp2_with fail
      refine HDn7.mono ?_
      rintro e w8 ⟨rfl, rfl⟩
      go_wp2_with fail
      go_ret
      exact ⟨rfl, hbw7⟩
end Go.Proofs.Ytahbhaphodgomaa
