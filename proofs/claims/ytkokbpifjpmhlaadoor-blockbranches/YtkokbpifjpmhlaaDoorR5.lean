/- The reference's Sum: the mathematics. -/
import Derived.Test.YtkokbpifjpmhlaaDoorR4
namespace Go.Proofs.YtkokbpifjpmhlaaDoor
set_option linter.unusedSimpArgs false
set_option linter.unusedVariables false
open Go.RowKit

def pad (bs : List Nat) : List Nat := bs ++ tl bs
theorem pad_len (bs : List Nat) : (pad bs).length = bs.length + 1 + zc bs.length + 8 := by simp [pad, tl, be8_len]; omega
theorem pad_64 (bs : List Nat) : ∃ C, (pad bs).length = 64 * C ∧ C = bs.length / 64 + (lst bs).length / 64 ∧ (lst bs).length = 64 * ((lst bs).length / 64) := by
  have h1 := pad_len bs
  have h2 := lst_len bs
  have h3 := zc_eq bs.length
  have h4 := zc_lt bs.length
  exact ⟨_, by rw [h1, h2]; omega, rfl, by rw [h2]; omega⟩
theorem pad_lt (bs : List Nat) (hb : ∀ c ∈ bs, c < 256) : ∀ c ∈ pad bs, c < 256 := by
  intro c hc
  rcases List.mem_append.1 hc with h | h
  · exact hb c h
  · exact lst_lt bs hb c (by unfold lst; exact List.mem_append_right _ h)
/-- All chunks of what is filled up: first those of the bytes, then those of the rest. -/
theorem fld_pre (K s : List Int) (a b : List Nat) (i : Nat) (h : 64 * i ≤ a.length) : fld K s (a ++ b) i = fld K s a i := by
  induction i with
  | zero => rfl
  | succ i ih =>
    simp only [fld]
    rw [ih (by omega)]
    congr 1
    rw [List.drop_append_of_le_length (by omega), List.take_append_of_le_length (by simp; omega)]
theorem fld_post (K s : List Int) (a b : List Nat) (q i : Nat) (h : a.length = 64 * q) : fld K s (a ++ b) (q + i) = fld K (fld K s (a ++ b) q) b i := by
  induction i with
  | zero => rfl
  | succ i ih =>
    rw [← Nat.add_assoc]
    simp only [fld]
    rw [ih]
    congr 2
    rw [show 64 * (q + i) = a.length + 64 * i by omega, List.drop_append]
    simp
theorem fld_pad (K s : List Int) (bs : List Nat) : fld K s (pad bs) (bs.length / 64 + (lst bs).length / 64) = fld K (fld K s bs (bs.length / 64)) (lst bs) ((lst bs).length / 64) := by
  have e : pad bs = bs.take (64 * (bs.length / 64)) ++ lst bs := by
    unfold pad lst
    rw [← List.append_assoc]
    congr 1
    have : bs.length - bs.length % 64 = 64 * (bs.length / 64) := by omega
    rw [this, List.take_append_drop]
  have hl : (bs.take (64 * (bs.length / 64))).length = 64 * (bs.length / 64) := by simp; omega
  rw [e, fld_post K s _ _ _ _ hl]
  congr 1
  rw [fld_pre K s _ _ _ (by omega)]
  have h := fld_pre K s (bs.take (64 * (bs.length / 64))) (bs.drop (64 * (bs.length / 64))) (bs.length / 64) (by omega)
  rw [List.take_append_drop] at h
  exact h.symm
/-- The tail as it is built, from its end. -/
def tlB (X : Nat) : Nat → List Nat
  | 0 => []
  | i + 1 => (X / 256 ^ i % 256) :: tlB X i
theorem tlB_len (X i : Nat) : (tlB X i).length = i := by
  induction i with
  | zero => rfl
  | succ i ih => simp [tlB, ih]
theorem tlB_8 (X : Nat) : tlB X 8 = be8 X 8 := by
  simp [tlB, be8]
theorem prt_sum (bs : List Nat) (i : Nat) : ((prt bs i 4 : Nat) : Int) = (((bs.getD (4 * i) 0 : Nat) : Int) * 16777216 + ((bs.getD (4 * i + 1) 0 : Nat) : Int) * 65536 + ((bs.getD (4 * i + 2) 0 : Nat) : Int) * 256 + ((bs.getD (4 * i + 3) 0 : Nat) : Int)) := by
  simp only [prt, Nat.add_zero]
  omega
theorem not_sub (e : Int) (h : W32 e) : bits .xor .u32 IntKind.u32.max e = 4294967295 - e := by
  obtain ⟨h0, h1⟩ := h
  obtain ⟨n, rfl⟩ := Int.eq_ofNat_of_zero_le h0
  rw [show IntKind.u32.max = ((4294967295 : Nat) : Int) by decide, u32_xor _ _ (by omega) (by omega) (by omega) (by omega)]
  rw [Int.toNat_natCast, Int.toNat_natCast]
  have e : (4294967295 : Nat) = 2 ^ 32 - 1 := by decide
  have hn : n < 2 ^ 32 := by omega
  have : (2 ^ 32 - 1) ^^^ n = 2 ^ 32 - 1 - n := by
    rw [Nat.xor_comm]
    apply Nat.eq_of_testBit_eq
    intro i
    have h1 : 2 ^ 32 - 1 - n = 2 ^ 32 - (n + 1) := by omega
    rw [h1, Nat.testBit_two_pow_sub_succ hn, Nat.testBit_xor, Nat.testBit_two_pow_sub_one]
    by_cases hi : i < 32
    · simp [hi]
    · have : n.testBit i = false := Nat.testBit_lt_two_pow (Nat.lt_of_lt_of_le hn (Nat.pow_le_pow_right (by decide) (by omega)))
      simp [hi, this]
  rw [e, this]
  omega
end Go.Proofs.YtkokbpifjpmhlaaDoor
