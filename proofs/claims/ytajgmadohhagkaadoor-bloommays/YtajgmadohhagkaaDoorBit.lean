/- The register bit by bit. -/
import Derived.Test.YtajgmadohhagkaaDoorLin
import Derived.Test.YtajgmadohhagkaaDoorW2
namespace Go.Proofs.YtajgmadohhagkaaDoor
set_option linter.unusedSimpArgs false
set_option linter.unusedVariables false
open Go.RowKit

def PP : Nat := 2197175160
/-- One step of the register. -/
def s1 (r : Nat) : Nat := r / 2 ^^^ (r % 2 * PP)
def sN (r : Nat) : Nat → Nat
  | 0 => r
  | k + 1 => s1 (sN r k)
theorem mul_bit (x y p : Nat) (hx : x < 2) (hy : y < 2) : (x ^^^ y) * p = x * p ^^^ y * p := by
  have h1 : x = 0 ∨ x = 1 := by omega
  have h2 : y = 0 ∨ y = 1 := by omega
  rcases h1 with rfl | rfl <;> rcases h2 with rfl | rfl <;> simp
theorem xor_swap (a b c d : Nat) : (a ^^^ b) ^^^ (c ^^^ d) = (a ^^^ c) ^^^ (b ^^^ d) := by
  rw [Nat.xor_assoc, Nat.xor_assoc, ← Nat.xor_assoc b c d, Nat.xor_comm b c, Nat.xor_assoc c b d]
theorem xor_mod2 (a b : Nat) : (a ^^^ b) % 2 = a % 2 ^^^ b % 2 := by
  have := Nat.xor_mod_two_pow (a := a) (b := b) (n := 1)
  simpa using this
theorem xor_div2 (a b : Nat) : (a ^^^ b) / 2 = a / 2 ^^^ b / 2 := by
  have := Nat.xor_div_two_pow (a := a) (b := b) (n := 1)
  simpa using this
theorem s1_xor (a b : Nat) : s1 (a ^^^ b) = s1 a ^^^ s1 b := by
  unfold s1
  rw [xor_div2, xor_mod2, mul_bit _ _ _ (Nat.mod_lt _ (by decide)) (Nat.mod_lt _ (by decide)), xor_swap]
theorem sN_xor (a b k : Nat) : sN (a ^^^ b) k = sN a k ^^^ sN b k := by
  induction k with
  | zero => rfl
  | succ k ih => rw [sN, ih, s1_xor]; rfl
theorem s1_dbl (x : Nat) : s1 (2 * x) = x := by
  unfold s1
  rw [Nat.mul_mod_right, Nat.zero_mul, Nat.xor_zero, Nat.mul_div_cancel_left _ (by decide)]
theorem sN_16 (x : Nat) : sN (16 * x) 4 = x := by
  rw [show 16 * x = 2 * (2 * (2 * (2 * x))) by omega]
  show s1 (s1 (s1 (s1 (2 * (2 * (2 * (2 * x))))))) = x
  rw [s1_dbl, s1_dbl, s1_dbl, s1_dbl]
theorem split16 (r : Nat) : 16 * (r / 16) ^^^ r % 16 = r := by
  rw [show (16 : Nat) = 2 ^ 4 by decide]
  apply Nat.eq_of_testBit_eq
  intro i
  rw [Nat.testBit_xor, Nat.testBit_two_pow_mul, Nat.testBit_mod_two_pow, Nat.testBit_div_two_pow]
  by_cases h : i < 4
  · rw [decide_eq_true h, decide_eq_false (show ¬ i ≥ 4 by omega)]; simp
  · rw [decide_eq_false h, decide_eq_true (show i ≥ 4 by omega), show i - 4 + 4 = i by omega]; simp
theorem tab_s (x : Nat) (h : x < 16) : tab x = sN x 4 := by
  have h' : ∀ a : Fin 16, tab a.val = sN a.val 4 := by decide +kernel
  exact h' ⟨x, h⟩
theorem step4_s (r : Nat) : step4 r = sN r 4 := by
  have h : sN (16 * (r / 16) ^^^ r % 16) 4 = sN r 4 := by rw [split16]
  rw [sN_xor, sN_16] at h
  unfold step4
  rw [tab_s _ (Nat.mod_lt _ (by decide)), h]
theorem sN_add (r j k : Nat) : sN r (j + k) = sN (sN r j) k := by
  induction k with
  | zero => rfl
  | succ k ih => rw [← Nat.add_assoc, sN, ih]; rfl
theorem byteStep_s (r c : Nat) : byteStep r c = sN (r ^^^ c) 8 := by
  unfold byteStep
  rw [step4_s, step4_s, ← sN_add]
theorem s1_lt (r : Nat) (h : r < 4294967296) : s1 r < 4294967296 := by
  unfold s1
  refine xor_lt _ _ (by omega) ?_
  have h1 : r % 2 = 0 ∨ r % 2 = 1 := by omega
  have h2 : PP < 4294967296 := by unfold PP; decide
  rcases h1 with h1 | h1 <;> rw [h1] <;> omega
theorem sN_lt (r k : Nat) (h : r < 4294967296) : sN r k < 4294967296 := by
  induction k with
  | zero => exact h
  | succ k ih => exact s1_lt _ ih

/-! ### Bits as lists -/
theorem bl_get (N : Nat) : ∀ (j k : Nat), k < j → (bl N j)[k]? = some (N / 2 ^ k % 2)
  | 0, k, h => by omega
  | j + 1, k, h => by
    rw [bl]
    by_cases hk : k < j
    · rw [List.getElem?_append_left (by rw [bl_len]; exact hk), bl_get N j k hk]
    · obtain rfl : k = j := by omega
      rw [List.getElem?_append_right (by rw [bl_len]; exact Nat.le_refl _), bl_len, Nat.sub_self]
      rfl
theorem bl_ext (N : Nat) (L : List Nat) (n : Nat) (hl : L.length = n) (h : ∀ k, k < n → L[k]? = some (N / 2 ^ k % 2)) : L = bl N n := by
  apply List.ext_getElem?
  intro k
  by_cases hk : k < n
  · rw [h k hk, bl_get N n k hk]
  · rw [List.getElem?_eq_none (by omega), List.getElem?_eq_none (by rw [bl_len]; omega)]
theorem bit_b (N k : Nat) : N / 2 ^ k % 2 = (N.testBit k).toNat := (Nat.toNat_testBit N k).symm
theorem bxor_toNat (a b : Bool) (y : Nat) (hy : y % 2 = b.toNat) : (a.toNat + y) % 2 = (a ^^ b).toNat := by
  rw [Nat.add_mod, hy]
  cases a <;> cases b <;> rfl
/-- One bit of E turned into the register. -/
theorem bl_turn (R E y j : Nat) (hj : j < 32) (hy : y % 2 = E / 2 ^ j % 2) :
    (bl (R ^^^ E % 2 ^ j) 32).set j (((R ^^^ E % 2 ^ j) / 2 ^ j % 2 + y) % 2) = bl (R ^^^ E % 2 ^ (j + 1)) 32 := by
  apply bl_ext
  · rw [List.length_set, bl_len]
  · intro k hk
    rw [List.getElem?_set]
    by_cases hkj : j = k
    · subst hkj
      rw [if_pos rfl, if_pos (by rw [bl_len]; exact hj)]
      congr 1
      rw [bit_b, bit_b, bxor_toNat _ (E.testBit j) y (by rw [hy, bit_b])]
      congr 1
      rw [Nat.testBit_xor, Nat.testBit_xor, Nat.testBit_mod_two_pow, Nat.testBit_mod_two_pow]
      simp
    · rw [if_neg hkj, bl_get _ _ _ hk]
      congr 1
      rw [bit_b, bit_b]
      congr 1
      rw [Nat.testBit_xor, Nat.testBit_xor, Nat.testBit_mod_two_pow, Nat.testBit_mod_two_pow]
      have : decide (k < j) = decide (k < j + 1) := by
        by_cases h : k < j
        · rw [decide_eq_true h, decide_eq_true (by omega)]
        · rw [decide_eq_false h, decide_eq_false (by omega)]
      rw [this]
/-- The register one place down. -/
theorem bl_down (R : Nat) (h : R < 4294967296) : (bl R 32).drop 1 ++ [0] = bl (R / 2) 32 := by
  apply bl_ext
  · simp [bl_len]
  · intro k hk
    by_cases h31 : k < 31
    · rw [List.getElem?_append_left (by simp [bl_len]; omega), List.getElem?_drop, bl_get _ _ _ (by omega)]
      congr 1
      rw [Nat.div_div_eq_div_mul, Nat.add_comm 1 k, Nat.pow_succ, Nat.mul_comm 2]
    · obtain rfl : k = 31 := by omega
      rw [List.getElem?_append_right (by simp [bl_len])]
      simp [bl_len]
      omega
theorem bl_ones : List.replicate 32 1 = bl (nt 0) 32 := by kernel_rfl
theorem nt_bit (R k : Nat) (hk : k < 32) : nt R / 2 ^ k % 2 = 1 - R / 2 ^ k % 2 := by
  rw [bit_b, bit_b, nt_eq, Nat.testBit_xor]
  have : ones.testBit k = true := by
    rw [show ones = 2 ^ 32 - 1 by unfold ones; decide, Nat.testBit_two_pow_sub_one, decide_eq_true hk]
  rw [this]
  cases R.testBit k <;> rfl
/-- The number that is read off, from the highest bit down. -/
theorem nt_read (R j : Nat) (h : j < 32) : nt R / 2 ^ (31 - j) = 2 * (nt R / 2 ^ (32 - j)) + (1 - R / 2 ^ (31 - j) % 2) := by
  rw [← nt_bit R (31 - j) (by omega), show 32 - j = (31 - j) + 1 by omega, Nat.pow_succ, ← Nat.div_div_eq_div_mul]
  omega
end Go.Proofs.YtajgmadohhagkaaDoor
