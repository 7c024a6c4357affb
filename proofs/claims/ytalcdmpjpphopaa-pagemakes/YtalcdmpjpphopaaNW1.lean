/- Walks: bits.Len64, num.Size, num.bounded. -/
import Derived.Test.YtalcdmpjpphopaaRows
import Derived.Test.YtalcdmpjpphopaaMath
import Derived.WalkKit
import Derived.WalkSpells
import Derived.WalkLawsBesides
import Derived.Lib.BitFns
namespace Go.Proofs.Ytalcdmpjpphopaa
set_option linter.unusedSimpArgs false
set_option linter.unusedVariables false
open Go.RowKit

theorem bitLen_log2 (n : Nat) : ∀ x, x < n → x ≠ 0 → x < 18446744073709551616 → Lib.bitLen x = Nat.log2 x + 1 := by
  induction n with
  | zero => intro x h; omega
  | succ n ih =>
    intro x hn h0 hx
    rw [Lib.bitLen_half x h0 hx]
    by_cases h2 : x < 2
    · have : x = 1 := by omega
      subst this
      decide
    · rw [ih (x / 2) (by omega) (by omega) (by omega), Nat.log2_def x, if_pos (by omega)]
      omega

theorem len_arm (x : Nat) (k d : Nat) (y : Int) (hd : 2 ^ k = d) (hy : y.toNat = x / d) (y0 : 0 ≤ y) (y1 : y ≤ 255) (h : k = 0 ∨ d ≤ x) (hx : x < 18446744073709551616) :
    Lib.len8 y + k = Lib.bitLen x := by
  rw [Lib.len8_of y y0 y1, hy]
  rcases h with h | h
  · subst h
    have : d = 1 := by rw [← hd]
    subst this
    rw [Nat.div_one]; omega
  · have := Lib.bitLen_shift k x (by rw [hd]; exact h) hx
    rw [this, hd]; omega

theorem wrap_small (a : Int) (h : 0 ≤ a) (h' : a ≤ 1000000) : wrap64 a = a := by
  unfold wrap64; omega

theorem len_fin (x : Int) (k d : Nat) (y : Int) (hd : 2 ^ k = d) (hy : y.toNat = x.toNat / d) (y0 : 0 ≤ y) (y1 : y ≤ 255) (h : k = 0 ∨ d ≤ x.toNat) (hx : x.toNat < 18446744073709551616) (hk : k ≤ 56)
    (hi : y.toNat < Lib.len8tab.size) : wrap64 ((k : Int) + wrap64 ↑(Lib.len8tab[y.toNat]'hi).toNat) = ↑(Lib.bitLen x.toNat) := by
  have a := len_arm x.toNat k d y hd hy y0 y1 h hx
  have b := Lib.len8_of y y0 y1
  have c := Lib.bitLen_le8' y y0 y1
  have e : Lib.len8 y = ((Lib.len8tab[y.toNat]'hi).toNat : Int) := by
    unfold Lib.len8
    rw [ByteArray.getElem?_lt' _ _ hi]; rfl
  rw [← e]
  rw [wrap_small (Lib.len8 y) (by omega) (by omega), wrap_small _ (by omega) (by omega)]
  omega

set_option maxHeartbeats 4000000 in
set_option maxRecDepth 100000 in
theorem len64_any (x : Int) (h0 : 0 ≤ x) (h1 : x ≤ 18446744073709551615) (w : World) :
    Calls Try.prog 39 #[.int .u64 x] w fun e w' => e = .returned (.int .i64 (Lib.bitLen x.toNat : Int)) ∧ w = w' := by
  have hs := Lib.len8tab_size
  go_enter Try.func39, Try.ntmps39
  go_wp2
  all_goals (go_ret; refine ⟨congrArg Ending.returned (congrArg (Value.int IntKind.i64) ?_), rfl⟩)
  · exact len_fin x 56 72057594037927936 _ (by decide) (by omega) (by omega) (by omega) (.inr (by omega)) (by omega) (by omega) (by omega)
  · exact len_fin x 48 281474976710656 _ (by decide) (by omega) (by omega) (by omega) (.inr (by omega)) (by omega) (by omega) (by omega)
  · exact len_fin x 40 1099511627776 _ (by decide) (by omega) (by omega) (by omega) (.inr (by omega)) (by omega) (by omega) (by omega)
  · exact len_fin x 32 4294967296 _ (by decide) (by omega) (by omega) (by omega) (.inr (by omega)) (by omega) (by omega) (by omega)
  · exact len_fin x 24 16777216 _ (by decide) (by omega) (by omega) (by omega) (.inr (by omega)) (by omega) (by omega) (by omega)
  · exact len_fin x 16 65536 _ (by decide) (by omega) (by omega) (by omega) (.inr (by omega)) (by omega) (by omega) (by omega)
  · exact len_fin x 8 256 _ (by decide) (by omega) (by omega) (by omega) (.inr (by omega)) (by omega) (by omega) (by omega)
  · have := len_fin x 0 1 x (by decide) (by omega) (by omega) (by omega) (.inl rfl) (by omega) (by omega) (by omega)
    simpa using this

theorem or1_le (n : Nat) (h : n ≤ 18446744073709551615) : n ||| 1 ≤ 18446744073709551615 := by
  rw [M.or_one]; omega

theorem or1_u64 (x : Int) (h0 : 0 ≤ x) (h1 : x ≤ 18446744073709551615) : bits BinOp.or IntKind.u64 x 1 = ((x.toNat ||| 1 : Nat) : Int) := by
  rw [u64_or x 1 h0 (by omega) (by omega) (by omega)]; rfl

theorem sz_fin (n : Nat) (h : n ≤ 18446744073709551615) : (Lib.bitLen (n ||| 1) + 6) / 7 = M.sz n := by
  have h1 := or1_le n h
  rw [bitLen_log2 _ _ (Nat.lt_succ_self _) (by rw [M.or_one]; omega) (by omega)]
  unfold M.sz
  congr 1

theorem sz_i64 (n : Nat) (h : n ≤ 18446744073709551615) : wrap64 ((((Lib.bitLen (n ||| 1) : Nat) : Int) + 6).tdiv 7) = (M.sz n : Int) := by
  have a := sz_fin n h
  have b := M.sz_le n (by omega)
  rw [Int.tdiv_eq_ediv_of_nonneg (by omega)]
  rw [wrap_small _ (by omega) (by omega)]
  omega

set_option maxHeartbeats 400000 in
set_option maxRecDepth 100000 in
theorem size_any (x : Int) (h0 : 0 ≤ x) (h1 : x ≤ 18446744073709551615) (w : World) :
    Calls Try.prog 26 #[.int .u64 x] w fun e w' => e = .returned (.int .i64 (M.sz x.toNat : Int)) ∧ w = w' := by
  have hb : (Lib.bitLen (x.toNat ||| 1) : Int) ≤ 64 := by
    have := Lib.bitLen_le (x.toNat ||| 1) 64 (by omega) (by have := or1_le x.toNat (by omega); omega)
    omega
  go_enter Try.func26, Try.ntmps26
  go_wp2_with fail
  rw [or1_u64 x h0 h1]
  refine (len64_any _ (by omega) (by have := or1_le x.toNat (by omega); omega) _).mono ?_
  rintro e w' ⟨rfl, rfl⟩
  rw [Int.toNat_natCast]
  go_wp2
  go_ret
  refine ⟨congrArg Ending.returned (congrArg (Value.int IntKind.i64) ?_), rfl⟩
  have := sz_fin x.toNat (by omega)
  show ((Lib.bitLen (x.toNat ||| 1) : Int) + 6) / 7 = _
  omega

set_option maxHeartbeats 400000 in
theorem bounded_any (x : Int) (w : World) :
    Calls Try.prog 25 #[.int .i64 x] w fun e w' => e = .returned (.int .i64 (min (max x 0) 8)) ∧ w = w' := by
  by_cases h1 : x < 0
  · have e : min (max x 0) 8 = 0 := by omega
    rw [e]
    go_enter Try.func25, Try.ntmps25
    go_wp2
    go_ret
    exact ⟨rfl, rfl⟩
  · by_cases h2 : 8 < x
    · have e : min (max x 0) 8 = 8 := by omega
      rw [e]
      go_enter Try.func25, Try.ntmps25
      go_wp2
      go_ret
      exact ⟨rfl, rfl⟩
    · have e : min (max x 0) 8 = x := by omega
      rw [e]
      clear e
      go_enter Try.func25, Try.ntmps25
      go_wp2
      go_ret
      exact ⟨rfl, rfl⟩
end Go.Proofs.Ytalcdmpjpphopaa
