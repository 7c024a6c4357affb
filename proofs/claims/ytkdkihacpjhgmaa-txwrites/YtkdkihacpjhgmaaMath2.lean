/- Plain mathematics of bytes of base 256, from both ends. No Go here. -/
import Derived.Test.YtkdkihacpjhgmaaMath
namespace Go.Proofs.Ytkdkihacpjhgmaa.M
set_option linter.unusedSimpArgs false
set_option linter.unusedVariables false

theorem pow256 (k : Nat) : 256 ^ k = 2 ^ (8 * k) := by rw [Nat.pow_mul]

def leB (n k : Nat) : List Nat := (List.range k).map fun i => n / 256 ^ i % 256
def beP (n K j : Nat) : List Nat := (List.range j).map fun i => n / 256 ^ (K - 1 - i) % 256
def beB (n k : Nat) : List Nat := beP n k k

theorem leB_succ (n k : Nat) : leB n (k + 1) = leB n k ++ [n / 256 ^ k % 256] := by simp [leB, List.range_succ]
theorem leB_len (n k : Nat) : (leB n k).length = k := by simp [leB]
theorem leB_lt (n k : Nat) : ∀ c ∈ leB n k, c < 256 := by
  intro c hc
  simp only [leB, List.mem_map] at hc
  obtain ⟨j, _, rfl⟩ := hc
  omega
theorem leB_get (n k j : Nat) (h : j < k) : (leB n k).getD j 0 = n / 256 ^ j % 256 := by simp [leB, List.getD, h]
theorem beP_succ (n K j : Nat) : beP n K (j + 1) = beP n K j ++ [n / 256 ^ (K - 1 - j) % 256] := by simp [beP, List.range_succ]
theorem beP_len (n K j : Nat) : (beP n K j).length = j := by simp [beP]
theorem beB_len (n k : Nat) : (beB n k).length = k := beP_len n k k
theorem beB_lt (n k : Nat) : ∀ c ∈ beB n k, c < 256 := by
  intro c hc
  simp only [beB, beP, List.mem_map] at hc
  obtain ⟨j, _, rfl⟩ := hc
  omega
theorem beB_get (n k j : Nat) (h : j < k) : (beB n k).getD j 0 = n / 256 ^ (k - 1 - j) % 256 := by simp [beB, beP, List.getD, h]

/-- The number of the first k bytes, the lowest first. -/
def lv (bs : List Nat) : Nat → Nat
  | 0 => 0
  | k + 1 => lv bs k + bs.getD k 0 * 256 ^ k
/-- .. the highest first. -/
def bv (bs : List Nat) : Nat → Nat
  | 0 => 0
  | k + 1 => bv bs k * 256 + bs.getD k 0

theorem getD_lt {bs : List Nat} (hb : ∀ c ∈ bs, c < 256) (j : Nat) : bs.getD j 0 < 256 := by
  by_cases h : j < bs.length
  · rw [List.getD_eq_getElem?_getD, List.getElem?_eq_getElem h]; exact hb _ (List.getElem_mem h)
  · rw [List.getD_eq_getElem?_getD, List.getElem?_eq_none (by omega)]; simp

theorem lv_lt (bs : List Nat) (hb : ∀ c ∈ bs, c < 256) (k : Nat) : lv bs k < 256 ^ k := by
  induction k with
  | zero => simp [lv]
  | succ k ih =>
    have h : bs.getD k 0 * 256 ^ k ≤ 255 * 256 ^ k := Nat.mul_le_mul_right _ (by have := getD_lt hb k; omega)
    rw [lv, Nat.pow_succ]
    omega
theorem bv_lt (bs : List Nat) (hb : ∀ c ∈ bs, c < 256) (k : Nat) : bv bs k < 256 ^ k := by
  induction k with
  | zero => simp [bv]
  | succ k ih =>
    have h := getD_lt hb k
    rw [bv, Nat.pow_succ]
    omega

theorem lv_digit (bs : List Nat) (hb : ∀ c ∈ bs, c < 256) (k j : Nat) (h : j < k) : lv bs k / 256 ^ j % 256 = bs.getD j 0 := by
  induction k with
  | zero => omega
  | succ k ih =>
    rw [lv]
    by_cases hj : j = k
    · subst hj
      rw [Nat.add_mul_div_right _ _ (Nat.pow_pos (by decide)), Nat.div_eq_of_lt (lv_lt bs hb j), Nat.zero_add, Nat.mod_eq_of_lt (getD_lt hb j)]
    · have e : 256 ^ k = 256 ^ (k - j - 1) * 256 * 256 ^ j := by
        rw [← Nat.pow_succ, ← Nat.pow_add]; congr 1; omega
      rw [e, ← Nat.mul_assoc, Nat.add_mul_div_right _ _ (Nat.pow_pos (by decide)), ← Nat.mul_assoc, Nat.add_mul_mod_self_right]
      exact ih (by omega)
theorem lv_of (bs : List Nat) (n k : Nat) (h : ∀ j, j < k → bs.getD j 0 = n / 256 ^ j % 256) : lv bs k = n % 256 ^ k := by
  induction k with
  | zero => simp [lv, Nat.mod_one]
  | succ k ih => rw [lv, ih (fun j hj => h j (by omega)), h k (by omega), Nat.pow_succ, Nat.mod_mul, Nat.mul_comm]

theorem bv_digit (bs : List Nat) (hb : ∀ c ∈ bs, c < 256) (k j : Nat) (h : j < k) : bv bs k / 256 ^ (k - 1 - j) % 256 = bs.getD j 0 := by
  induction k with
  | zero => omega
  | succ k ih =>
    rw [bv]
    have hk := getD_lt hb k
    by_cases hj : j = k
    · subst hj
      rw [show j + 1 - 1 - j = 0 by omega, Nat.pow_zero, Nat.div_one]
      omega
    · have e : k + 1 - 1 - j = (k - 1 - j) + 1 := by omega
      rw [e, Nat.pow_succ, Nat.mul_comm (256 ^ _) 256, ← Nat.div_div_eq_div_mul, Nat.mul_comm (bv bs k) 256, Nat.mul_add_div (by decide), Nat.div_eq_of_lt hk, Nat.add_zero]
      exact ih (by omega)

theorem take_ext (l bs : List Nat) (k : Nat) (hl : l.length = k) (hk : k ≤ bs.length) (h : ∀ j, j < k → l.getD j 0 = bs.getD j 0) : l = bs.take k := by
  apply List.ext_getElem
  · rw [hl, List.length_take]; omega
  · intro j h1 h2
    have e1 : l[j] = l.getD j 0 := by rw [List.getD_eq_getElem?_getD, List.getElem?_eq_getElem]; rfl
    have e2 : (bs.take k)[j] = bs.getD j 0 := by
      rw [List.getElem_take, List.getD_eq_getElem?_getD, List.getElem?_eq_getElem (by omega)]; rfl
    rw [e1, e2, h j (by omega)]

theorem leB_lv (bs : List Nat) (hb : ∀ c ∈ bs, c < 256) (k : Nat) (hk : k ≤ bs.length) : leB (lv bs k) k = bs.take k :=
  take_ext _ _ _ (leB_len _ _) hk fun j hj => by rw [leB_get _ _ _ hj, lv_digit bs hb k j hj]
theorem beB_bv (bs : List Nat) (hb : ∀ c ∈ bs, c < 256) (k : Nat) (hk : k ≤ bs.length) : beB (bv bs k) k = bs.take k :=
  take_ext _ _ _ (beB_len _ _) hk fun j hj => by rw [beB_get _ _ _ hj, bv_digit bs hb k j hj]
theorem lv_leB (n k : Nat) (rest : List Nat) : lv (leB n k ++ rest) k = n % 256 ^ k :=
  lv_of _ n k fun j hj => by rw [getD_app _ _ _ (by rw [leB_len]; exact hj), leB_get _ _ _ hj]

/-- What Compact lays. -/
def cs (n : Nat) : Nat := if n < 253 then 0 else if n ≤ 65535 then 2 else if n ≤ 4294967295 then 4 else 8
def sg (n : Nat) : Nat := if n < 253 then n else if n ≤ 65535 then 253 else if n ≤ 4294967295 then 254 else 255
def compB (n : Nat) : List Nat := sg n :: leB n (cs n)
theorem compB_len (n : Nat) : (compB n).length = 1 + cs n := by simp [compB, leB_len]; omega
theorem cs_le (n : Nat) : cs n ≤ 8 := by unfold cs; split <;> (try split) <;> (try split) <;> omega
theorem sg_lt (n : Nat) : sg n < 256 := by unfold sg; split <;> (try split) <;> (try split) <;> omega
theorem compB_lt (n : Nat) : ∀ c ∈ compB n, c < 256 := by
  intro c hc
  simp only [compB, List.mem_cons] at hc
  rcases hc with rfl | hc
  · exact sg_lt n
  · exact leB_lt _ _ c hc

/-- What Expand answers of bytes that begin with b: how many bytes behind the sign, the least number that needs them. -/
def xs (b : Nat) : Nat := if b = 253 then 2 else if b = 254 then 4 else if b = 255 then 8 else 0
def xl (b : Nat) : Nat := if b = 253 then 253 else if b = 254 then 65536 else 4294967296
def xn (bs : List Nat) : Nat := if xs (bs.getD 0 0) = 0 then bs.getD 0 0 else lv (bs.drop 1) (xs (bs.getD 0 0))
def xe (bs : List Nat) : Nat := if bs.length < 1 + xs (bs.getD 0 0) then 8 else if xs (bs.getD 0 0) ≠ 0 ∧ xn bs < xl (bs.getD 0 0) then 2 else 0
def xnum (bs : List Nat) : Nat := if xe bs = 0 then xn bs else 0
def xk (bs : List Nat) : Nat := if xe bs = 0 then 1 + xs (bs.getD 0 0) else 0

end Go.Proofs.Ytkdkihacpjhgmaa.M
