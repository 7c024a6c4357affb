/- Bits in a row of bytes: set, asked. -/
import Derived.WalkKit
namespace Go.Proofs.YtajgmadohhagkaaDoor
set_option linter.unusedSimpArgs false
set_option linter.unusedVariables false

def setB (l : List Nat) (i : Nat) : List Nat := l.set (i / 8) (l.getD (i / 8) 0 ||| 2 ^ (i % 8))
def hasB (l : List Nat) (i : Nat) : Bool := (l.getD (i / 8) 0).testBit (i % 8)
theorem setB_len (l : List Nat) (i : Nat) : (setB l i).length = l.length := by simp [setB]
theorem getD_lt0 (l : List Nat) (h : ∀ c ∈ l, c < 256) (k : Nat) : l.getD k 0 < 256 := by
  by_cases hk : k < l.length
  · have : l.getD k 0 = l[k] := by simp [List.getD, hk]
    rw [this]; exact h _ (List.getElem_mem hk)
  · simp [List.getD, hk]
theorem byte_or (a b : Nat) (ha : a < 256) (hb : b < 256) : a ||| b < 256 := by
  have e : (256 : Nat) = 2 ^ 8 := by decide
  rw [e] at ha hb ⊢
  exact Nat.or_lt_two_pow ha hb
theorem pow_byte (i : Nat) : 2 ^ (i % 8) < 256 := by
  have e : (256 : Nat) = 2 ^ 8 := by decide
  rw [e]
  exact Nat.pow_lt_pow_right (by decide) (Nat.mod_lt _ (by decide))
theorem setB_lt (l : List Nat) (h : ∀ c ∈ l, c < 256) (i : Nat) : ∀ c ∈ setB l i, c < 256 := by
  intro c hc
  unfold setB at hc
  rcases List.mem_or_eq_of_mem_set hc with hc | rfl
  · exact h c hc
  · exact byte_or _ _ (getD_lt0 l h _) (pow_byte i)
theorem getD_set_self (l : List Nat) (i v : Nat) (hi : i < l.length) : (l.set i v).getD i 0 = v := by simp [List.getD, hi]
theorem getD_set_other (l : List Nat) (i j v : Nat) (h : i ≠ j) : (l.set i v).getD j 0 = l.getD j 0 := by
  simp [List.getD, List.getElem?_set, h]
theorem hasB_setB (l : List Nat) (i j : Nat) (hi : i / 8 < l.length) : hasB (setB l i) j = (hasB l j || decide (i = j)) := by
  unfold hasB setB
  by_cases h : i / 8 = j / 8
  · rw [← h, getD_set_self _ _ _ hi, Nat.testBit_or, Nat.testBit_two_pow]
    congr 1
    by_cases hj : i = j
    · subst hj; simp
    · have : ¬ i % 8 = j % 8 := by omega
      simp [hj, this]
  · rw [getD_set_other _ _ _ _ h]
    have : ¬ i = j := by intro e; subst e; exact h rfl
    simp [this]
theorem rows_ext (l m : List Nat) (h1 : ∀ c ∈ l, c < 256) (h2 : ∀ c ∈ m, c < 256) (hl : l.length = m.length) (h : ∀ j, j < 8 * l.length → hasB l j = hasB m j) : l = m := by
  refine List.ext_getElem hl fun i hi hi' => Nat.eq_of_testBit_eq fun k => ?_
  have g1 : l.getD i 0 = l[i] := by simp [List.getD, hi]
  have g2 : m.getD i 0 = m[i] := by simp [List.getD, hi']
  by_cases hk : k < 8
  · have := h (8 * i + k) (by omega)
    unfold hasB at this
    rwa [show (8 * i + k) / 8 = i by omega, show (8 * i + k) % 8 = k by omega, g1, g2] at this
  · have p : (256 : Nat) ≤ 2 ^ k := by
      have : 2 ^ 8 ≤ 2 ^ k := Nat.pow_le_pow_right (by decide) (by omega)
      simpa using this
    rw [Nat.testBit_lt_two_pow (Nat.lt_of_lt_of_le (h1 _ (List.getElem_mem hi)) p), Nat.testBit_lt_two_pow (Nat.lt_of_lt_of_le (h2 _ (List.getElem_mem hi')) p)]

/-- The bits at p 0, .., p (k - 1) set. -/
def setN (l : List Nat) (p : Nat → Nat) : Nat → List Nat
  | 0 => l
  | k + 1 => setB (setN l p k) (p k)
theorem setN_len (l : List Nat) (p : Nat → Nat) : ∀ k, (setN l p k).length = l.length
  | 0 => rfl
  | k + 1 => by rw [setN, setB_len, setN_len l p k]
theorem setN_lt (l : List Nat) (h : ∀ c ∈ l, c < 256) (p : Nat → Nat) : ∀ k, ∀ c ∈ setN l p k, c < 256
  | 0 => h
  | k + 1 => setB_lt _ (setN_lt l h p k) _
def anyN (p : Nat → Nat) (j : Nat) : Nat → Bool
  | 0 => false
  | k + 1 => anyN p j k || decide (p k = j)
theorem hasB_setN (l : List Nat) (p : Nat → Nat) (hp : ∀ k, p k / 8 < l.length) (j : Nat) : ∀ k, hasB (setN l p k) j = (hasB l j || anyN p j k)
  | 0 => by simp [setN, anyN]
  | k + 1 => by rw [setN, hasB_setB _ _ _ (by rw [setN_len]; exact hp k), hasB_setN l p hp j k, anyN, Bool.or_assoc]
/-- All bits at p 0, .., p (k - 1) are set. -/
def allN (l : List Nat) (p : Nat → Nat) : Nat → Bool
  | 0 => true
  | k + 1 => allN l p k && hasB l (p k)
theorem allN_of (l : List Nat) (p : Nat → Nat) (k : Nat) (h : ∀ j, j < k → hasB l (p j) = true) : allN l p k = true := by
  induction k with
  | zero => rfl
  | succ k ih => rw [allN, ih (fun j hj => h j (by omega)), h k (by omega)]; rfl
theorem allN_at (l : List Nat) (p : Nat → Nat) (k : Nat) (h : allN l p k = true) : ∀ j, j < k → hasB l (p j) = true := by
  induction k with
  | zero => intro j hj; omega
  | succ k ih =>
    rw [allN, Bool.and_eq_true] at h
    intro j hj
    by_cases e : j = k
    · subst e; exact h.2
    · exact ih h.1 j (by omega)
theorem allN_no (l : List Nat) (p : Nat → Nat) (k m : Nat) (hk : k < m) (h : hasB l (p k) = false) : allN l p m = false := by
  cases e : allN l p m with
  | false => rfl
  | true => rw [allN_at l p m e k hk] at h; cases h
theorem anyN_at (p : Nat → Nat) (k m : Nat) (hk : k < m) : anyN p (p k) m = true := by
  induction m with
  | zero => omega
  | succ m ih =>
    rw [anyN, Bool.or_eq_true]
    by_cases e : k = m
    · subst e; right; simp
    · left; exact ih (by omega)
theorem hasB_zero (n j : Nat) : hasB (List.replicate n 0) j = false := by
  have : (List.replicate n 0).getD (j / 8) 0 = 0 := by
    simp only [List.getD, List.getElem?_replicate]; split <;> rfl
  unfold hasB
  rw [this]; simp
end Go.Proofs.YtajgmadohhagkaaDoor
