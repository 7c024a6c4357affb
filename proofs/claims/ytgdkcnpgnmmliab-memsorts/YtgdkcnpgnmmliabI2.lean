/- slices.BinarySearchFunc at ints, in the law's order; a Sorted of ints: find, Seek, Len, At. -/
import Derived.Test.YtgdkcnpgnmmliabI1
import Derived.BigQuiet
import Derived.Deep.QuietTactic
namespace Go.Proofs.Ytgdkcnpgnmmliab
set_option linter.unusedSimpArgs false
set_option linter.unusedVariables false
open Go.RowKit

abbrev fOrd : Value := .func (.func 9) #[] #[]
set_option maxHeartbeats 400000 in
theorem order_any (a b : Nat) (ha : (a : Int) ≤ 1000000) (hb : (b : Int) ≤ 1000000) (w : World) : Calls Try.prog 9 #[.int .i64 (a : Int), .int .i64 (b : Int)] w fun e w' => e = .returned (.int .i64 (cI a b)) ∧ w = w' := by
  obtain ⟨p, hp⟩ : ∃ p, p = a / 3 := ⟨_, rfl⟩
  obtain ⟨q, hq⟩ : ∃ q, q = b / 3 := ⟨_, rfl⟩
  have e1 : (a : Int) / 3 = (p : Int) := by omega
  have e2 : (b : Int) / 3 = (q : Int) := by omega
  have e3 : cI a b = if p < q then -1 else if q < p then 1 else 0 := by rw [hp, hq]; rfl
  rw [e3]
  clear hp hq e3
  by_cases h1 : p < q
  · rw [if_pos h1]
    go_enter Try.func9, Try.ntmps9
    go_wp2
    go_ret
    exact ⟨rfl, rfl⟩
  · rw [if_neg h1]
    by_cases h2 : q < p
    · rw [if_pos h2]
      go_enter Try.func9, Try.ntmps9
      go_wp2
      go_ret
      exact ⟨rfl, rfl⟩
    · rw [if_neg h2]
      go_enter Try.func9, Try.ntmps9
      go_wp2
      go_ret
      exact ⟨rfl, rfl⟩

set_option maxHeartbeats 1000000 in
set_option maxRecDepth 100000 in
theorem bs_anyI (A : Option Addr) (c : Nat) (L : List Nat) (x : Nat) (w : World) (hr : RdN w w.heap.size 1 A L.length (cellsI L)) (hn6 : (L.length : Int) ≤ 1000000) (hS : Srt cI L) (hL : ∀ y ∈ L, y < 256) (hx : x < 256) :
    Calls Try.prog 41 #[.slice A L.length c, .int .i64 (x : Int), fOrd] w fun e w' =>
      e = .returned (.tuple #[.int .i64 (pos cI L x : Nat), .bool (hit cI L x)]) ∧ w = w' := by
  generalize hp : pos cI L x = p
  generalize hh : hit cI L x = H
  have HP := Lib.hid hp
  have HH := Lib.hid hh
  have HS := Lib.hid hS
  have HR := Lib.hid hr
  have HL := Lib.hid hL
  clear hp hh hS hr hL
  obtain ⟨n, hn⟩ : ∃ n, n = L.length := ⟨_, rfl⟩
  rw [← hn] at hn6 ⊢
  have HN := Lib.hid hn
  clear hn
  go_enter Try.func41, Try.ntmps41
  go_upto_region 3 with fail
  go_loopg [9, 10, 11] n (fun kx s9 s10 s11 wr => ∃ lo hi : Nat, s9 = .int .i64 lo ∧ s10 = .int .i64 hi ∧ lo ≤ hi ∧ hi ≤ n ∧ hi - lo ≤ kx ∧ w = wr ∧
    Hid ((∀ m y, m < lo → L[m]? = some y → cI y x < 0) ∧ (∀ m y, hi ≤ m → L[m]? = some y → ¬ cI y x < 0)))
  case atStart => exact ⟨0, n, rfl, rfl, Nat.zero_le _, Nat.le_refl _, by omega, rfl, Lib.hid ⟨fun m y h => absurd h (Nat.not_lt_zero _), fun m y h1 h2 => by have := (List.getElem?_eq_some_iff.1 h2).1; have := HN.out; omega⟩⟩
  case round =>
    obtain ⟨lo, hi, rfl, rfl, hlh, hin, hg, rfl, HI⟩ := hrel
    by_cases hlt : lo < hi
    · obtain ⟨m, hmm⟩ : ∃ m, m = (lo + hi) / 2 := ⟨_, rfl⟩
      obtain ⟨y, hy⟩ : ∃ y, L[m]? = some y := ⟨_, List.getElem?_eq_getElem (by have := HN.out; omega)⟩
      have HY := Lib.hid hy
      have hy256 := HL.out y (List.mem_of_getElem? hy)
      obtain ⟨g, off, rfl, hgb, c0⟩ := HR.out.int m y hy
      clear hy
      have hc := fun W => order_any y x (by omega) (by omega) W
      generalize hz : cI y x = z at hc
      have HZ := Lib.hid hz
      have HC := Lib.hid hc
      clear hz hc
      go_upto_region 5 with fail
      have e : ((lo : Int) + (hi : Int)) / 2 = (m : Int) := by omega
      rw [e]
      have HM := Lib.hid hmm
      have hmn : m < n := by omega
      clear e hmm
      go_wp2_with fail
      refine (HC.out _).mono ?_
      rintro ee w' ⟨rfl, rfl⟩
      by_cases hz0 : z < 0
      · go_wp2
        go_roundg (hi - (m + 1))
        case measure => have := HM.out; omega
        case rel =>
          refine ⟨m + 1, hi, by go_num, rfl, by have := HM.out; omega, hin, Nat.le_refl _, rfl, Lib.hid ⟨fun t u ht hu => ?_, HI.out.2⟩⟩
          exact HS.out.mono ordI x t m u y (by omega) hu HY.out (by rw [HZ.out]; exact hz0)
      · go_wp2
        go_roundg (m - lo)
        case measure => have := HM.out; omega
        case rel =>
          refine ⟨lo, m, rfl, rfl, by have := HM.out; omega, by omega, Nat.le_refl _, rfl, Lib.hid ⟨HI.out.1, fun t u ht hu => Int.not_lt.1 fun h => absurd (show z < 0 from ?_) (by omega)⟩⟩
          rw [← HZ.out]
          exact HS.out.mono ordI x m t y u ht HY.out hu h
    · obtain rfl : lo = hi := by omega
      have hpl : p = lo := by
        rw [← HP.out]
        exact pos_eq cI L x lo (by have := HN.out; omega) HI.out.1 (fun u hu => HI.out.2 lo u (Nat.le_refl _) hu)
      have HPL := Lib.hid hpl
      clear hpl
      by_cases hln : lo < n
      · obtain ⟨y, hy⟩ : ∃ y, L[lo]? = some y := ⟨_, List.getElem?_eq_getElem (by have := HN.out; omega)⟩
        have hz' : H = decide (cI y x = 0) := by
          rw [← HH.out]
          unfold hit
          rw [HP.out, HPL.out, hy]
        have hy256 := HL.out y (List.mem_of_getElem? hy)
        obtain ⟨g, off, rfl, hgb, c0⟩ := HR.out.int lo y hy
        clear hy
        have hc := fun W => order_any y x (by omega) (by omega) W
        generalize hz : cI y x = z at hc hz'
        have HZ := Lib.hid hz'
        have HC := Lib.hid hc
        clear hz hz' hc
        go_upto_region 8 with fail
        go_wp2_with fail
        refine (HC.out _).mono ?_
        rintro ee w' ⟨rfl, rfl⟩
        go_wp2
        go_ret2
        refine ⟨?_, rfl⟩
        rw [HPL.out, HZ.out]
        rfl
      · have hd : decide ((lo : Int) < (n : Int)) = false := by simp; omega
        have hH : H = false := by
          rw [← HH.out]
          unfold hit
          rw [HP.out, HPL.out, List.getElem?_eq_none (by have := HN.out; omega)]
        have H9 := Lib.hid hH
        clear hH
        go_upto_region 8 with fail
        go_wp2
        go_ret2
        refine ⟨?_, rfl⟩
        rw [HPL.out, H9.out]
        rfl
end Go.Proofs.Ytgdkcnpgnmmliab
