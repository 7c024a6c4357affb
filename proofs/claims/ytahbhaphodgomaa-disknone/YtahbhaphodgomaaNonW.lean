/- The walk of DiskNone. -/
import Derived.Test.YtahbhaphodgomaaE7
namespace Go.Proofs.Ytahbhaphodgomaa
set_option linter.unusedSimpArgs false
set_option linter.unusedVariables false
open Go.RowKit Go.Maps

section
variable (a b : List Nat)
theorem no_s1 : (⟨[], clamp 1000, 0, false⟩ : DS).create [120] = (⟨[⟨[120], [], 0⟩], 1000, 0, false⟩, 0) := by rfl
theorem no_s2 (ha : a.length ≤ 200) : (⟨[⟨[120], [], 0⟩], 1000, 0, false⟩ : DS).append [120] a = (⟨[⟨[120], a, 0⟩], 1000, 0, false⟩, 0) := by
  have : ¬ 1000 < a.length := by omega
  simp [DS.append, lookA, usedA, setA, DS.step, this]
theorem no_s3 : (⟨[⟨[120], a, 0⟩], 1000, 0, false⟩ : DS).create [121] = (⟨[⟨[120], a, 0⟩, ⟨[121], [], 0⟩], 1000, 0, false⟩, 0) := by
  have h1 : named [121] = true := by decide
  have h2 : bytesBefore [121] [120] = false := by decide
  simp [DS.create, h1, lookA, DS.step, insA, h2]
theorem no_s4 (ha : a.length ≤ 200) (hb : b.length ≤ 200) : (⟨[⟨[120], a, 0⟩, ⟨[121], [], 0⟩], 1000, 0, false⟩ : DS).append [121] b = (⟨[⟨[120], a, 0⟩, ⟨[121], b, 0⟩], 1000, 0, false⟩, 0) := by
  have : ¬ 1000 < a.length + b.length := by omega
  simp [DS.append, lookA, usedA, setA, DS.step, this]
theorem no_s5 : (⟨[⟨[120], a, 0⟩, ⟨[121], b, 0⟩], 1000, 0, false⟩ : DS).rename [120] [121] = (⟨[⟨[121], a, 0⟩], 1000, 0, false⟩, 0) := by
  have h1 : named [121] = true := by decide
  simp [DS.rename, h1, lookA, DS.step, insA, delA]
theorem no_s6 : (⟨[⟨[120], a, 0⟩, ⟨[121], b, 0⟩], 1000, 0, false⟩ : DS).remove [121] = (⟨[⟨[120], a, 0⟩], 1000, 0, false⟩, 0) := by
  simp [DS.remove, lookA, DS.step, delA]
theorem no_s7 : (⟨[⟨[120], a, 0⟩], 1000, 0, false⟩ : DS).rename [120] [121] = (⟨[⟨[121], a, 0⟩], 1000, 0, false⟩, 0) := by
  have h1 : named [121] = true := by decide
  simp [DS.rename, h1, lookA, DS.step, insA, delA]
theorem no_s8 (ha : a.length ≤ 200) : (⟨[⟨[121], a, 0⟩], 1000, 0, false⟩ : DS).read [121] 0 500 = (a, 0) := by
  have h : ¬ ((a.length : Int) < 0) := by omega
  simp only [DS.read, lookA]
  rw [if_neg (by simp)]
  have h2 : a.take 500 = a := List.take_of_length_le (by omega)
  simp [h, h2]
theorem no_s9 : (⟨[⟨[121], a, 0⟩], 1000, 0, false⟩ : DS).size [120] = (0, 4) := by
  simp [DS.size, lookA]
end
/-- What came in lies apart from a disk that was made since. -/
theorem Dk.apart {w : World} {base gd : Nat} {L : List Nat} {s : DS} (h : Dk w base gd L s) {A : Option Addr} {n : Nat} {xs : List Value} {w0 : World} (hr : Rd w0 base A n xs) : ∀ g off, A = some ⟨g, off, none⟩ → 0 < n → g ∉ L := by
  intro g off e h0 hm
  have h1 := hr.own e h0
  have h2 := (h.low g hm).1
  omega

set_option maxHeartbeats 400000 in
theorem none_early (A B : Option Addr) (n m c d : Nat) (r : Bool) (w : World) (h : (200 : Int) < (n : Int) ∨ (200 : Int) < (m : Int)) :
    Calls Try.prog 7 #[.slice A n c, .slice B m d, .bool r] w fun e w' => e = .returned (.bool true) ∧ Below w.heap.size w w' := by
  by_cases h1 : (200 : Int) < (n : Int)
  · go_enter Try.func7, Try.ntmps7
    go_wp2_with fail
    refine (head_any _).mono ?_
    rintro e w1 ⟨rfl, hb1⟩
    go_wp2_with fail
    go_ret
    exact ⟨rfl, hb1⟩
  · have h1' : decide ((200 : Int) < (n : Int)) = false := by simp; omega
    have h2 : (200 : Int) < (m : Int) := by omega
    go_enter Try.func7, Try.ntmps7
    go_wp2_with fail
    refine (head_any _).mono ?_
    rintro e w1 ⟨rfl, hb1⟩
    go_wp2_with fail
    go_ret
    exact ⟨rfl, hb1⟩

set_option maxHeartbeats 4000000 in
set_option maxRecDepth 100000 in
theorem none_walk (A B : Option Addr) (n m c d : Nat) (r : Bool) (a b : List Nat) (w : World) (ha : Rd w w.heap.size A n (bys a)) (hb : Rd w w.heap.size B m (bys b)) (hab : ∀ c ∈ a, c < 256) (hbb : ∀ c ∈ b, c < 256) (hn : (n : Int) ≤ 200) (hm : (m : Int) ≤ 200) :
    Calls Try.prog 7 #[.slice A n c, .slice B m d, .bool r] w fun e w' => e = .returned (.bool true) ∧ Below w.heap.size w w' := by
  have hal : a.length = n := by have := ha.1; rwa [bys_len] at this
  have hbl : b.length = m := by have := hb.1; rwa [bys_len] at this
  have HAL := Lib.hid hal
  have HBL := Lib.hid hbl
  have hd1' : decide ((200 : Int) < (n : Int)) = false := by simp; omega
  have hd2' : decide ((200 : Int) < (m : Int)) = false := by simp; omega
  have HA := Lib.hid ha
  have HB := Lib.hid hb
  have HAB := Lib.hid hab
  have HBB := Lib.hid hbb
  have han : a.length ≤ 200 := by omega
  have hbn : b.length ≤ 200 := by omega
  have HAN := Lib.hid han
  have HBN := Lib.hid hbn
  clear ha hb hab hbb hal hbl han hbn
  go_enter Try.func7, Try.ntmps7
  go_wp2_with fail
  refine (head_any _).mono ?_
  rintro e w0 ⟨rfl, hb0⟩
  have hz0 := hb0.size
  go_wp2_with fail
  refine (new_any 1000 w0 (by decide) w.heap.size hz0).mono ?_
  rintro e w1 ⟨rfl, hd1, hb1⟩
  have hbw1 := hb0.trans (hb1.mono hz0)
  have hz1 := hbw1.size
  have HC := create_any w1 _ _ _ _ [120] hd1 (by decide) hz1 (by decide)
  rw [no_s1] at HC
  unfold str at HC
  generalize hgd : w0.heap.size = gd at *
  clear hgd
  go_wp2_with fail
  refine HC.mono ?_
  rintro e w2 ⟨rfl, hn2⟩
  obtain ⟨L2, hd2, hbw2, hz2⟩ := hn2.go hd1 hbw1 hz1
  have HP := append_any w2 _ _ _ _ [120] A n c a hd2 (by decide) hz2 ((HA.out.below hbw2).up hz2) HAB.out (by omega) (hd2.apart HA.out)
  rw [no_s2 a HAN.out] at HP
  unfold str at HP
  clear HC hn2 hd1 hbw1 hb1
  go_wp2_with fail
  refine HP.mono ?_
  rintro e w3 ⟨rfl, hn3⟩
  obtain ⟨L3, hd3, hbw3, hz3⟩ := hn3.go hd2 hbw2 hz2
  have HC := create_any w3 _ _ _ _ [121] hd3 (by decide) hz3 (by simp)
  rw [no_s3 a] at HC
  unfold str at HC
  clear HP hn3 hd2 hbw2
  go_wp2_with fail
  refine HC.mono ?_
  rintro e w4 ⟨rfl, hn4⟩
  obtain ⟨L4, hd4, hbw4, hz4⟩ := hn4.go hd3 hbw3 hz3
  have HP := append_any w4 _ _ _ _ [121] B m d b hd4 (by decide) hz4 ((HB.out.below hbw4).up hz4) HBB.out (by omega) (hd4.apart HB.out)
  rw [no_s4 a b HAN.out HBN.out] at HP
  unfold str at HP
  clear HC hn4 hd3 hbw3
  go_wp2_with fail
  refine HP.mono ?_
  rintro e w5 ⟨rfl, hn5⟩
  obtain ⟨L5, hd5, hbw5, hz5⟩ := hn5.go hd4 hbw4 hz4
  have HU := hd5.used
  rw [show usedA (⟨[⟨[120], a, 0⟩, ⟨[121], b, 0⟩], 1000, 0, false⟩ : DS).all = n + m by simp [usedA, HAL.out, HBL.out]] at HU
  clear HP hn5 hd4 hbw4
  have hcst : ((n + m : Nat) : Int) = (n : Int) + (m : Int) := by omega
  go_wp2_with fail
  refine HU.mono ?_
  rintro e w6 ⟨rfl, hb6⟩
  have hd6 := hd5.below hb6
  have hbw6 := hbw5.trans (hb6.mono hz5)
  have hz6 := hbw6.size
  clear HU hd5 hbw5 hb6
  cases r with
  | true =>
    have HRN := rename_any w6 _ _ _ _ [120] [121] hd6 (by decide) (by decide) hz6 (by simp)
    rw [no_s5 a b] at HRN
    unfold str at HRN
    go_wp2_with fail
    refine HRN.mono ?_
    rintro e w8 ⟨rfl, hn8⟩
    obtain ⟨L8, hd8, hbw8, hz8⟩ := hn8.go hd6 hbw6 hz6
    clear HRN hn8 hd6 hbw6
    have HR := read_any w8 _ _ _ _ [121] 0 500 hd8 (by decide) (by decide) (by decide)
    rw [no_s8 a HAN.out] at HR
    unfold str at HR
    go_wp2_with fail
    refine HR.mono ?_
    rintro e w9 ⟨v9, rfl, hbuf9, hb9⟩
    have hd9 := hd8.below hb9
    have hbw9 := hbw8.trans (hb9.mono hz8)
    have hz9 := hbw9.size
    obtain ⟨A9, c9, rfl, _, hr9⟩ := hbuf9.slice
    simp only [HAL.out] at hr9 ⊢
    have HSZ := size_any w9 _ _ _ _ [120] hd9 (by decide)
    rw [no_s9 a] at HSZ
    unfold str at HSZ
    clear HR hd8 hbw8 hbuf9
    go_wp2_with fail
    refine HSZ.mono ?_
    rintro e w9' ⟨rfl, rfl⟩
    have cv1 := run_conv (P := Try.prog) c9 hr9 29 9 5 Try.underlying29 Try.underlying5 Try.underlying9
    have cv2 := run_conv (P := Try.prog) c (HA.out.below hbw9) 29 9 5 Try.underlying29 Try.underlying5 Try.underlying9
    have hsame := strB_same a
    generalize strB a = T at cv1 cv2 hsame
    have HU := hd9.used
    rw [show usedA (⟨[⟨[121], a, 0⟩], 1000, 0, false⟩ : DS).all = n by simp [usedA, HAL.out]] at HU
    go_wp2_with fail
    refine HU.mono ?_
    rintro e w10 ⟨rfl, hb10⟩
    have hd10 := hd9.below hb10
    have hbw10 := hbw9.trans (hb10.mono hz9)
    have HLs := list_any w10 _ _ _ _ hd10 (by simp)
    clear HU hd9 cv1 cv2 HSZ
    go_wp2_with fail
    refine HLs.mono ?_
    rintro e w11 ⟨v11, rfl, hbuf11, hb11⟩
    have hbw11 := hbw10.trans (hb11.mono hbw10.size)
    obtain ⟨A11, c11, ev11, _, _⟩ := hbuf11.slice
    have ev : v11 = .slice A11 1 c11 := ev11
    subst ev
    clear hbuf11 ev11
    go_wp2_with fail
    go_ret
    exact ⟨rfl, hbw11⟩
  | false =>
    have HRM := remove_any w6 _ _ _ _ [121] hd6 (by decide) hz6
    rw [no_s6 a b] at HRM
    unfold str at HRM
    go_wp2_with fail
    refine HRM.mono ?_
    rintro e w7 ⟨rfl, hn7⟩
    obtain ⟨L7, hd7, hbw7, hz7⟩ := hn7.go hd6 hbw6 hz6
    clear HRM hn7 hd6 hbw6
    have HRN := rename_any w7 _ _ _ _ [120] [121] hd7 (by decide) (by decide) hz7 (by simp)
    rw [no_s7 a] at HRN
    unfold str at HRN
    go_wp2_with fail
    refine HRN.mono ?_
    rintro e w8 ⟨rfl, hn8⟩
    obtain ⟨L8, hd8, hbw8, hz8⟩ := hn8.go hd7 hbw7 hz7
    clear HRN hn8 hd7 hbw7
    have HR := read_any w8 _ _ _ _ [121] 0 500 hd8 (by decide) (by decide) (by decide)
    rw [no_s8 a HAN.out] at HR
    unfold str at HR
    go_wp2_with fail
    refine HR.mono ?_
    rintro e w9 ⟨v9, rfl, hbuf9, hb9⟩
    have hd9 := hd8.below hb9
    have hbw9 := hbw8.trans (hb9.mono hz8)
    have hz9 := hbw9.size
    obtain ⟨A9, c9, rfl, _, hr9⟩ := hbuf9.slice
    simp only [HAL.out] at hr9 ⊢
    have HSZ := size_any w9 _ _ _ _ [120] hd9 (by decide)
    rw [no_s9 a] at HSZ
    unfold str at HSZ
    clear HR hd8 hbw8 hbuf9
    go_wp2_with fail
    refine HSZ.mono ?_
    rintro e w9' ⟨rfl, rfl⟩
    have cv1 := run_conv (P := Try.prog) c9 hr9 29 9 5 Try.underlying29 Try.underlying5 Try.underlying9
    have cv2 := run_conv (P := Try.prog) c (HA.out.below hbw9) 29 9 5 Try.underlying29 Try.underlying5 Try.underlying9
    have hsame := strB_same a
    generalize strB a = T at cv1 cv2 hsame
    have HU := hd9.used
    rw [show usedA (⟨[⟨[121], a, 0⟩], 1000, 0, false⟩ : DS).all = n by simp [usedA, HAL.out]] at HU
    go_wp2_with fail
    refine HU.mono ?_
    rintro e w10 ⟨rfl, hb10⟩
    have hd10 := hd9.below hb10
    have hbw10 := hbw9.trans (hb10.mono hz9)
    have HLs := list_any w10 _ _ _ _ hd10 (by simp)
    clear HU hd9 cv1 cv2 HSZ
    go_wp2_with fail
    refine HLs.mono ?_
    rintro e w11 ⟨v11, rfl, hbuf11, hb11⟩
    have hbw11 := hbw10.trans (hb11.mono hbw10.size)
    obtain ⟨A11, c11, ev11, _, _⟩ := hbuf11.slice
    have ev : v11 = .slice A11 1 c11 := ev11
    subst ev
    clear hbuf11 ev11
    go_wp2_with fail
    go_ret
    exact ⟨rfl, hbw11⟩
end Go.Proofs.Ytahbhaphodgomaa
