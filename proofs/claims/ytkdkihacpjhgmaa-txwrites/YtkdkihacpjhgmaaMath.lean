/- Plain mathematics of numbers as bytes: seven bits a byte, and bytes of base 256. No Go here. -/
import Derived.Laws.BitsAllLaws
namespace Go.Proofs.Ytkdkihacpjhgmaa.M
set_option linter.unusedSimpArgs false
set_option linter.unusedVariables false

theorem getD_app (a b : List Nat) (j : Nat) (h : j < a.length) : (a ++ b).getD j 0 = a.getD j 0 := by
  simp [List.getD, List.getElem?_append_left h]

theorem or_one (n : Nat) : n ||| 1 = 2 * (n / 2) + 1 := by
  apply Nat.eq_of_testBit_eq
  intro i
  rw [Nat.testBit_or]
  cases i with
  | zero => simp
  | succ i =>
    have h1 : Nat.testBit 1 (i + 1) = false := by simp [Nat.testBit_succ]
    rw [h1, Bool.or_false, Nat.testBit_succ, Nat.testBit_succ]
    congr 1
    omega

def sz (n : Nat) : Nat := (Nat.log2 (n ||| 1) + 7) / 7

theorem sz_pos (n : Nat) : 1 ≤ sz n := by unfold sz; omega

theorem pow128 (k : Nat) : 128 ^ k = 2 ^ (7 * k) := by rw [Nat.pow_mul]

theorem sz_lt (n : Nat) : n < 128 ^ sz n := by
  have h0 : n ||| 1 ≠ 0 := by rw [or_one]; omega
  have h1 : n ||| 1 < 2 ^ (Nat.log2 (n ||| 1) + 1) := Nat.lt_log2_self
  have h2 : 2 ^ (Nat.log2 (n ||| 1) + 1) ≤ 2 ^ (7 * sz n) := Nat.pow_le_pow_right (by decide) (by unfold sz; omega)
  rw [pow128]
  have h3 : n ≤ n ||| 1 := by rw [or_one]; omega
  omega

theorem sz_ge (n : Nat) (h : 1 < sz n) : 128 ^ (sz n - 1) ≤ n := by
  have h0 : n ||| 1 ≠ 0 := by rw [or_one]; omega
  have h1 : 2 ^ Nat.log2 (n ||| 1) ≤ n ||| 1 := Nat.log2_self_le h0
  have h2 : 2 ^ (7 * (sz n - 1)) ≤ 2 ^ Nat.log2 (n ||| 1) := Nat.pow_le_pow_right (by decide) (by unfold sz at *; omega)
  rw [pow128]
  have h3 : n ||| 1 = 2 * (n / 2) + 1 := or_one n
  have h4 : 2 ^ (7 * (sz n - 1)) % 2 = 0 := by
    obtain ⟨m, hm⟩ : ∃ m, 7 * (sz n - 1) = m + 1 := ⟨7 * (sz n - 1) - 1, by omega⟩
    rw [hm, Nat.pow_succ]; omega
  omega

theorem sz_of (n k : Nat) (h1 : 1 ≤ k) (h2 : n < 128 ^ k) (h3 : k = 1 ∨ 128 ^ (k - 1) ≤ n) : sz n = k := by
  rcases Nat.lt_trichotomy (sz n) k with h | h | h
  · exfalso
    have a := sz_lt n
    have b : 128 ^ sz n ≤ 128 ^ (k - 1) := Nat.pow_le_pow_right (by decide) (by omega)
    have := sz_pos n
    omega
  · exact h
  · exfalso
    have a := sz_ge n (by omega)
    have b : 128 ^ k ≤ 128 ^ (sz n - 1) := Nat.pow_le_pow_right (by decide) (by omega)
    omega

theorem sz_le (n : Nat) (h : n < 18446744073709551616) : sz n ≤ 10 := by
  rcases Nat.lt_or_ge 10 (sz n) with h1 | h1
  · exfalso
    have a := sz_ge n (by omega)
    have b : 128 ^ 10 ≤ 128 ^ (sz n - 1) := Nat.pow_le_pow_right (by decide) (by omega)
    have c : (128 : Nat) ^ 10 = 1180591620717411303424 := by decide
    omega
  · exact h1

theorem sz_mono (a b : Nat) (h : a ≤ b) : sz a ≤ sz b := by
  rcases Nat.lt_or_ge (sz b) (sz a) with h1 | h1
  · exfalso
    have := sz_pos b
    have p := sz_ge a (by omega)
    have q := sz_lt b
    have r : 128 ^ sz b ≤ 128 ^ (sz a - 1) := Nat.pow_le_pow_right (by decide) (by omega)
    omega
  · exact h1

/-- The bytes ahead of the last. -/
def putH (n : Nat) (i : Nat) : List Nat := (List.range i).map (fun j => n / 128 ^ j % 128 + 128)
def putB (n : Nat) : List Nat := putH n (sz n - 1) ++ [n / 128 ^ (sz n - 1)]

theorem putH_zero (n : Nat) : putH n 0 = [] := rfl
theorem putH_succ (n i : Nat) : putH n (i + 1) = putH n i ++ [n / 128 ^ i % 128 + 128] := by simp [putH, List.range_succ]
theorem putH_len (n i : Nat) : (putH n i).length = i := by simp [putH]
theorem putB_len (n : Nat) : (putB n).length = sz n := by have := sz_pos n; simp [putB, putH_len]; omega
theorem putH_get (n i j : Nat) (h : j < i) : (putH n i).getD j 0 = n / 128 ^ j % 128 + 128 := by
  simp [putH, List.getD, h]
theorem putB_last_lt (n : Nat) : n / 128 ^ (sz n - 1) < 128 := by
  have h := sz_lt n
  have hp := sz_pos n
  have e : 128 ^ sz n = 128 ^ (sz n - 1) * 128 := by rw [← Nat.pow_succ]; congr 1; omega
  rw [e] at h
  exact Nat.div_lt_of_lt_mul h
theorem putB_get (n j : Nat) (h : j < sz n - 1) : (putB n).getD j 0 = n / 128 ^ j % 128 + 128 := by
  rw [putB, getD_app _ _ _ (by rw [putH_len]; exact h)]; exact putH_get n _ j h
theorem putB_get_last (n : Nat) : (putB n).getD (sz n - 1) 0 = n / 128 ^ (sz n - 1) := by
  simp [putB, List.getD, List.getElem?_append_right, putH_len]
theorem putB_lt (n : Nat) : ∀ c ∈ putB n, c < 256 := by
  intro c hc
  simp only [putB, putH, List.mem_append, List.mem_map, List.mem_range, List.mem_singleton] at hc
  rcases hc with ⟨j, _, rfl⟩ | rfl
  · omega
  · have := putB_last_lt n; omega

/-- The number of the first k bytes, seven bits each. -/
def gval (bs : List Nat) : Nat → Nat
  | 0 => 0
  | k + 1 => gval bs k + bs.getD k 0 % 128 * 128 ^ k

theorem gval_lt (bs : List Nat) (k : Nat) : gval bs k < 128 ^ k := by
  induction k with
  | zero => simp [gval]
  | succ k ih =>
    have h : bs.getD k 0 % 128 * 128 ^ k ≤ 127 * 128 ^ k := Nat.mul_le_mul_right _ (by omega)
    rw [gval, Nat.pow_succ]
    omega

theorem gval_lt' (bs : List Nat) (k : Nat) (c : Nat) (h : bs.getD k 0 % 128 ≤ c) : gval bs (k + 1) < (c + 1) * 128 ^ k := by
  have h1 : bs.getD k 0 % 128 * 128 ^ k ≤ c * 128 ^ k := Nat.mul_le_mul_right _ h
  have h2 := gval_lt bs k
  rw [gval, Nat.add_mul]
  omega

theorem gval_digit (bs : List Nat) (k j : Nat) (h : j < k) : gval bs k / 128 ^ j % 128 = bs.getD j 0 % 128 := by
  induction k with
  | zero => omega
  | succ k ih =>
    rw [gval]
    by_cases hj : j = k
    · subst hj
      rw [Nat.add_mul_div_right _ _ (Nat.pow_pos (by decide)), Nat.div_eq_of_lt (gval_lt bs j), Nat.zero_add, Nat.mod_mod]
    · have e : 128 ^ k = 128 ^ (k - j - 1) * 128 * 128 ^ j := by
        rw [← Nat.pow_succ, ← Nat.pow_add]; congr 1; omega
      rw [e, ← Nat.mul_assoc, Nat.add_mul_div_right _ _ (Nat.pow_pos (by decide)), ← Nat.mul_assoc, Nat.add_mul_mod_self_right]
      exact ih (by omega)

theorem gval_last (bs : List Nat) (k : Nat) (h : bs.getD k 0 < 128) : gval bs (k + 1) / 128 ^ k = bs.getD k 0 := by
  rw [gval, Nat.add_mul_div_right _ _ (Nat.pow_pos (by decide)), Nat.div_eq_of_lt (gval_lt bs k), Nat.zero_add, Nat.mod_eq_of_lt h]

/-- The digits of a number make its rest. -/
theorem gval_of (bs : List Nat) (n k : Nat) (h : ∀ j, j < k → bs.getD j 0 % 128 = n / 128 ^ j % 128) : gval bs k = n % 128 ^ k := by
  induction k with
  | zero => simp [gval, Nat.mod_one]
  | succ k ih =>
    rw [gval, ih (fun j hj => h j (by omega)), h k (by omega), Nat.pow_succ, Nat.mod_mul, Nat.mul_comm]

/-- How many bytes stand ahead of the last. -/
structure Lead (bs : List Nat) (at' : Nat) : Prop where
  le : at' ≤ bs.length
  nine : at' ≤ 9
  high : ∀ j, j < at' → 128 ≤ bs.getD j 0
  stop : at' = bs.length ∨ at' = 9 ∨ bs.getD at' 0 < 128

theorem Lead.unique {bs : List Nat} {a b : Nat} (h : Lead bs a) (g : Lead bs b) : a = b := by
  have key : ∀ {a b : Nat}, Lead bs a → Lead bs b → a < b → False := by
    intro a b h g hlt
    have h1 := h.stop
    have h2 := g.high a hlt
    have := g.le
    have := g.nine
    omega
  rcases Nat.lt_trichotomy a b with h1 | h1 | h1
  · exact (key h g h1).elim
  · exact h1
  · exact (key g h h1).elim

theorem Lead.exists_ (bs : List Nat) : ∃ a, Lead bs a := by
  have key : ∀ f a, a + f = 9 → a ≤ bs.length → (∀ j, j < a → 128 ≤ bs.getD j 0) → ∃ a, Lead bs a := by
    intro f
    induction f with
    | zero => intro a h1 h2 h3; exact ⟨a, h2, by omega, h3, .inr (.inl (by omega))⟩
    | succ f ih =>
      intro a h1 h2 h3
      by_cases hl : a = bs.length
      · exact ⟨a, h2, by omega, h3, .inl hl⟩
      · by_cases hb : bs.getD a 0 < 128
        · exact ⟨a, h2, by omega, h3, .inr (.inr hb)⟩
        · refine ih (a + 1) (by omega) (by omega) (fun j hj => ?_)
          by_cases hja : j = a
          · subst hja; omega
          · exact h3 j (by omega)
  exact key 9 0 (by omega) (by omega) (fun j hj => by omega)

/-- What Get answers: the error, the size, the number. -/
def ge (bs : List Nat) (a : Nat) : Nat := if a = bs.length then 8 else if (a = 9 ∧ 1 < bs.getD 9 0) ∨ (bs.getD a 0 = 0 ∧ 0 < a) then 2 else 0
def gk (bs : List Nat) (a : Nat) : Nat := if ge bs a = 0 then a + 1 else 0
def gn (bs : List Nat) (a : Nat) : Nat := if ge bs a = 0 then gval bs (a + 1) else 0

theorem lead_put (n : Nat) (hn : n < 18446744073709551616) (more : List Nat) : Lead (putB n ++ more) (sz n - 1) := by
  have hl := putB_len n
  have hp := sz_pos n
  have h10 := sz_le n hn
  refine ⟨by simp [hl]; omega, by omega, fun j hj => ?_, .inr (.inr ?_)⟩
  · rw [getD_app _ _ _ (by rw [hl]; omega), putB_get n j hj]; omega
  · rw [getD_app _ _ _ (by rw [hl]; omega), putB_get_last]; exact putB_last_lt n

theorem put_last_pos (n : Nat) (h : 1 < sz n) : 0 < n / 128 ^ (sz n - 1) := Nat.div_pos (sz_ge n h) (Nat.pow_pos (by decide))

theorem get_put (n : Nat) (hn : n < 18446744073709551616) (more : List Nat) :
    ge (putB n ++ more) (sz n - 1) = 0 ∧ gk (putB n ++ more) (sz n - 1) = sz n ∧ gn (putB n ++ more) (sz n - 1) = n := by
  have hl := putB_len n
  have hp := sz_pos n
  have h10 := sz_le n hn
  have hlast : (putB n ++ more).getD (sz n - 1) 0 = n / 128 ^ (sz n - 1) := by
    rw [getD_app _ _ _ (by rw [hl]; omega), putB_get_last]
  have e0 : ge (putB n ++ more) (sz n - 1) = 0 := by
    unfold ge
    rw [if_neg (by simp [hl]; omega), if_neg]
    rintro (⟨h1, h2⟩ | ⟨h1, h2⟩)
    · rw [← h1, hlast] at h2
      have h3 : n / 128 ^ (sz n - 1) < 2 := by
        rw [h1]
        exact Nat.div_lt_of_lt_mul (by simpa using hn)
      omega
    · rw [hlast] at h1
      have := put_last_pos n (by omega)
      omega
  refine ⟨e0, by unfold gk; rw [if_pos e0]; omega, ?_⟩
  unfold gn
  rw [if_pos e0]
  rw [gval_of _ n, show sz n - 1 + 1 = sz n by omega]
  · exact Nat.mod_eq_of_lt (sz_lt n)
  · intro j hj
    by_cases h : j < sz n - 1
    · rw [getD_app _ _ _ (by rw [hl]; omega), putB_get n j h]; omega
    · have : j = sz n - 1 := by omega
      subst this
      rw [hlast]

/-- What Get takes is just what Put lays. -/
theorem put_get (bs : List Nat) (a : Nat) (hb : ∀ c ∈ bs, c < 256) (hL : Lead bs a) (h0 : ge bs a = 0) :
    gn bs a < 18446744073709551616 ∧ putB (gn bs a) = bs.take (a + 1) ∧ a < bs.length := by
  have hlt : ∀ j, bs.getD j 0 < 256 := by
    intro j
    by_cases h : j < bs.length
    · rw [List.getD_eq_getElem?_getD, List.getElem?_eq_getElem h]; exact hb _ (List.getElem_mem h)
    · rw [List.getD_eq_getElem?_getD, List.getElem?_eq_none (by omega)]; simp
  unfold ge at h0
  by_cases ha : a = bs.length
  · rw [if_pos ha] at h0; omega
  rw [if_neg ha] at h0
  by_cases hq : (a = 9 ∧ 1 < bs.getD 9 0) ∨ (bs.getD a 0 = 0 ∧ 0 < a)
  · rw [if_pos hq] at h0; omega
  have e0 : ge bs a = 0 := by unfold ge; rw [if_neg ha, if_neg hq]
  have hle := hL.le
  have hlast : bs.getD a 0 < 128 := by
    rcases hL.stop with h | h | h
    · omega
    · subst h
      have : ¬ 1 < bs.getD 9 0 := fun h' => hq (.inl ⟨rfl, h'⟩)
      omega
    · exact h
  have hgn : gn bs a = gval bs (a + 1) := by unfold gn; rw [if_pos e0]
  have hN : gval bs (a + 1) < 18446744073709551616 := by
    by_cases h9 : a = 9
    · subst h9
      have h1 : ¬ 1 < bs.getD 9 0 := fun h' => hq (.inl ⟨rfl, h'⟩)
      have := gval_lt' bs 9 1 (by omega)
      have e : (1 + 1) * (128 : Nat) ^ 9 = 18446744073709551616 := by decide
      omega
    · have h1 := gval_lt bs (a + 1)
      have h2 : 128 ^ (a + 1) ≤ 128 ^ 9 := Nat.pow_le_pow_right (by decide) (by have := hL.nine; omega)
      have e : (128 : Nat) ^ 9 = 9223372036854775808 := by decide
      omega
  have hs : sz (gval bs (a + 1)) = a + 1 := by
    refine sz_of _ _ (by omega) (gval_lt _ _) ?_
    by_cases h0' : a = 0
    · left; omega
    · right
      have h1 : 0 < bs.getD a 0 := by
        rcases Nat.eq_zero_or_pos (bs.getD a 0) with h | h
        · exact absurd (.inr ⟨h, by omega⟩) hq
        · exact h
      rw [gval, Nat.mod_eq_of_lt hlast, show a + 1 - 1 = a by omega]
      have : 1 * 128 ^ a ≤ bs.getD a 0 * 128 ^ a := Nat.mul_le_mul_right _ h1
      omega
  refine ⟨by rw [hgn]; exact hN, ?_, by omega⟩
  rw [hgn]
  apply List.ext_getElem
  · rw [putB_len, hs, List.length_take]; omega
  · intro j h1 h2
    rw [putB_len, hs] at h1
    have e1 : (putB (gval bs (a + 1)))[j] = (putB (gval bs (a + 1))).getD j 0 := by
      rw [List.getD_eq_getElem?_getD, List.getElem?_eq_getElem]; rfl
    have e2 : (bs.take (a + 1))[j] = bs.getD j 0 := by
      rw [List.getElem_take, List.getD_eq_getElem?_getD, List.getElem?_eq_getElem (by omega)]; rfl
    rw [e1, e2]
    by_cases hj : j < a
    · rw [putB_get _ j (by omega), gval_digit _ _ _ (by omega)]
      have := hL.high j hj
      have := hlt j
      omega
    · have : j = a := by omega
      subst this
      have e3 : j = sz (gval bs (j + 1)) - 1 := by omega
      have e4 := putB_get_last (gval bs (j + 1))
      rw [← e3] at e4
      rw [e4]
      exact gval_last bs j hlast

end Go.Proofs.Ytkdkihacpjhgmaa.M
