/- Bytes as one number, and the register over it. -/
import Derived.Test.YtahbhaphodgomabDoorBit
namespace Go.Proofs.YtahbhaphodgomabDoor
set_option linter.unusedSimpArgs false
set_option linter.unusedVariables false
open Go.RowKit

def num : List Nat → Nat
  | [] => 0
  | c :: l => c + 256 * num l
theorem add_xor (k m c : Nat) (h : c < 2 ^ k) : c + 2 ^ k * m = c ^^^ 2 ^ k * m := by
  apply Nat.eq_of_testBit_eq
  intro i
  rw [Nat.add_comm, Nat.testBit_two_pow_mul_add _ h, Nat.testBit_xor, Nat.testBit_two_pow_mul]
  by_cases hi : i < k
  · rw [if_pos hi, decide_eq_false (by omega)]; simp
  · rw [if_neg hi, decide_eq_true (by omega), Nat.testBit_lt_two_pow (Nat.lt_of_lt_of_le h (Nat.pow_le_pow_right (by decide) (by omega)))]; simp
theorem mul_xor (k a b : Nat) : 2 ^ k * (a ^^^ b) = 2 ^ k * a ^^^ 2 ^ k * b := by
  apply Nat.eq_of_testBit_eq
  intro i
  rw [Nat.testBit_two_pow_mul, Nat.testBit_xor, Nat.testBit_xor, Nat.testBit_two_pow_mul, Nat.testBit_two_pow_mul]
  by_cases hi : i ≥ k
  · rw [decide_eq_true hi]; simp
  · rw [decide_eq_false hi]; simp
theorem num_cons (c : Nat) (l : List Nat) (h : c < 256) : num (c :: l) = c ^^^ 256 * num l := add_xor 8 (num l) c h
theorem sN_dbl (x k : Nat) : sN (2 ^ k * x) k = x := by
  induction k with
  | zero => rw [Nat.pow_zero, Nat.one_mul]; rfl
  | succ k ih => rw [show 2 ^ (k + 1) * x = 2 * (2 ^ k * x) by rw [Nat.pow_succ, Nat.mul_comm (2 ^ k) 2, Nat.mul_assoc], show k + 1 = 1 + k by omega, sN_add, show sN (2 * (2 ^ k * x)) 1 = s1 (2 * (2 ^ k * x)) from rfl, s1_dbl, ih]
theorem crc_num : ∀ (l : List Nat) (r : Nat), (∀ c ∈ l, c < 256) → crcR r l = sN (r ^^^ num l) (8 * l.length)
  | [], r, _ => by rw [show num [] = 0 from rfl, Nat.xor_zero]; rfl
  | c :: l, r, h => by
    have ih := crc_num l (byteStep r c) (fun c hc => h c (by simp [hc]))
    rw [show crcR r (c :: l) = crcR (byteStep r c) l from rfl, ih, num_cons c l (h c (by simp)), List.length_cons, show 8 * (l.length + 1) = 8 + 8 * l.length by omega, sN_add, ← Nat.xor_assoc]
    rw [sN_xor (r ^^^ c) (256 * num l) 8, show sN (256 * num l) 8 = num l from sN_dbl (num l) 8, byteStep_s]
theorem num_set : ∀ (l : List Nat) (p y : Nat), p < l.length → (∀ c ∈ l, c < 256) → y < 256 → num (l.set p (l.getD p 0 ^^^ y)) = num l ^^^ 256 ^ p * y
  | [], p, y, h, _, _ => by simp at h
  | c :: l, 0, y, _, h, hy => by
    have hc := h c (by simp)
    rw [List.set_cons_zero, List.getD_cons_zero, num_cons _ _ (show c ^^^ y < 256 from Nat.xor_lt_two_pow (n := 8) hc hy), num_cons _ _ hc, Nat.pow_zero, Nat.one_mul, Nat.xor_assoc, Nat.xor_assoc, Nat.xor_comm y]
  | c :: l, p + 1, y, hp, h, hy => by
    have hc := h c (by simp)
    have ih := num_set l p y (by simpa using hp) (fun c hc => h c (by simp [hc])) hy
    rw [List.set_cons_succ, List.getD_cons_succ, num_cons _ _ hc, num_cons _ _ hc, ih, show 256 * (num l ^^^ 256 ^ p * y) = 256 * num l ^^^ 256 * (256 ^ p * y) from mul_xor 8 _ _, ← Nat.xor_assoc, Nat.pow_succ, Nat.mul_comm (256 ^ p) 256, Nat.mul_assoc]
theorem s1_ne (x : Nat) (h : x < 4294967296) (h0 : x ≠ 0) : s1 x ≠ 0 := by
  intro hs
  unfold s1 at hs
  have h1 : x % 2 = 0 ∨ x % 2 = 1 := by omega
  rcases h1 with h1 | h1
  · rw [h1, Nat.zero_mul, Nat.xor_zero] at hs
    omega
  · rw [h1, Nat.one_mul] at hs
    have e : x / 2 = PP := by
      have := congrArg (fun z => z ^^^ PP) hs
      simpa [Nat.xor_assoc] using this
    have hp : 2147483648 ≤ PP := by unfold PP; decide
    omega
theorem sN_ne (x k : Nat) (h : x < 4294967296) (h0 : x ≠ 0) : sN x k ≠ 0 := by
  induction k with
  | zero => exact h0
  | succ k ih => exact s1_ne _ (sN_lt x k h) ih
/-- Bytes that differ by a pattern of at most 32 bits from bit T on have unlike checks. -/
theorem burst_ne (l m : List Nat) (T F : Nat) (hl : ∀ c ∈ l, c < 256) (hm : ∀ c ∈ m, c < 256) (hlen : m.length = l.length) (hT : T ≤ 8 * l.length) (hF : F < 4294967296) (hF0 : F ≠ 0) (hn : num m = num l ^^^ 2 ^ T * F) :
    nt (crcR (nt 0) m) ≠ nt (crcR (nt 0) l) := by
  intro h
  have h2 : crcR (nt 0) m = crcR (nt 0) l := by
    have := congrArg nt h
    rwa [nt_nt, nt_nt] at this
  rw [crc_num m _ hm, crc_num l _ hl, hlen, hn, ← Nat.xor_assoc, sN_xor] at h2
  have h3 : sN (2 ^ T * F) (8 * l.length) = 0 := by
    have := congrArg (fun z => sN (nt 0 ^^^ num l) (8 * l.length) ^^^ z) h2
    simpa [← Nat.xor_assoc] using this
  rw [show 8 * l.length = T + (8 * l.length - T) by omega, sN_add, sN_dbl] at h3
  exact sN_ne F _ hF hF0 h3
theorem pat_succ (N i : Nat) : N % 2 ^ (i + 1) = N % 2 ^ i ^^^ 2 ^ i * (N / 2 ^ i % 2) := by
  rw [← add_xor i _ _ (Nat.mod_lt _ (Nat.two_pow_pos i)), Nat.mod_pow_succ]
/-- The number behind one turned bit. -/
theorem num_turn (l m : List Nat) (T N i : Nat) (hm : ∀ c ∈ m, c < 256) (hp : (T + i) / 8 < m.length) (hn : num m = num l ^^^ 2 ^ T * (N % 2 ^ i)) (hbit : N / 2 ^ i % 2 = 1) :
    num (m.set ((T + i) / 8) (m.getD ((T + i) / 8) 0 ^^^ 2 ^ ((T + i) % 8))) = num l ^^^ 2 ^ T * (N % 2 ^ (i + 1)) := by
  have hy : 2 ^ ((T + i) % 8) < 256 := by
    have : (T + i) % 8 < 8 := Nat.mod_lt _ (by decide)
    exact Nat.pow_lt_pow_right (a := 2) (by decide) this
  rw [num_set m _ _ hp hm hy, hn, pat_succ, hbit, mul_xor, Nat.xor_assoc]
  congr 2
  rw [show (256 : Nat) = 2 ^ 8 by decide, ← Nat.pow_mul, ← Nat.pow_add, Nat.mul_one, ← Nat.pow_add]
  congr 1
  omega
theorem pat_same (N i : Nat) (hbit : N / 2 ^ i % 2 = 0) : N % 2 ^ (i + 1) = N % 2 ^ i := by
  rw [pat_succ, hbit, Nat.mul_zero, Nat.xor_zero]
theorem pat_ne (N i : Nat) (hbit : N / 2 ^ i % 2 = 1) : N % 2 ^ (i + 1) ≠ 0 := by
  rw [Nat.mod_pow_succ, hbit, Nat.mul_one]
  have := Nat.two_pow_pos i
  omega
theorem set_lt (m : List Nat) (p y : Nat) (hm : ∀ c ∈ m, c < 256) (hy : y < 256) : ∀ c ∈ m.set p y, c < 256 := by
  intro c hc
  rcases List.mem_or_eq_of_mem_set hc with h | h
  · exact hm c h
  · rw [h]; exact hy
end Go.Proofs.YtahbhaphodgomabDoor
