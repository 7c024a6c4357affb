/- Plain mathematics of keys as texts: an escaped key ends ahead of all that is longer. No Go here. -/
import Derived.Test.YtalcdmpjpphopaaMath2
namespace Go.Proofs.Ytalcdmpjpphopaa.M
set_option linter.unusedSimpArgs false
set_option linter.unusedVariables false

/-- A key's bytes, behind each 0 a 255. -/
def esc : List Nat → List Nat
  | [] => []
  | c :: l => if c = 0 then 0 :: 255 :: esc l else c :: esc l

theorem esc_nil : esc [] = [] := rfl
theorem esc_zero (l : List Nat) : esc (0 :: l) = 0 :: 255 :: esc l := by simp [esc]
theorem esc_pos (c : Nat) (l : List Nat) (h : c ≠ 0) : esc (c :: l) = c :: esc l := by simp [esc, h]
theorem esc_app (a b : List Nat) : esc (a ++ b) = esc a ++ esc b := by
  induction a with
  | nil => rfl
  | cons c l ih =>
    by_cases h : c = 0
    · subst h; simp [esc_zero, ih]
    · simp [esc_pos c _ h, ih]
theorem esc_one (c : Nat) : esc [c] = if c = 0 then [0, 255] else [c] := by
  by_cases h : c = 0
  · subst h; rfl
  · simp [esc, h]
theorem esc_lt (l : List Nat) (h : ∀ c ∈ l, c < 256) : ∀ c ∈ esc l, c < 256 := by
  induction l with
  | nil => simp [esc]
  | cons c l ih =>
    have ih := ih (fun x hx => h x (by simp [hx]))
    have hc := h c (by simp)
    by_cases h0 : c = 0
    · subst h0
      rw [esc_zero]
      intro x hx
      simp only [List.mem_cons] at hx
      rcases hx with rfl | rfl | hx
      · omega
      · omega
      · exact ih x hx
    · rw [esc_pos c l h0]
      intro x hx
      simp only [List.mem_cons] at hx
      rcases hx with rfl | hx
      · omega
      · exact ih x hx
theorem esc_len (l : List Nat) : l.length ≤ (esc l).length ∧ (esc l).length ≤ 2 * l.length := by
  induction l with
  | nil => simp [esc]
  | cons c l ih =>
    by_cases h0 : c = 0
    · subst h0; rw [esc_zero]; simp; omega
    · rw [esc_pos c l h0]; simp; omega
theorem esc_take (l : List Nat) (j : Nat) (h : j < l.length) : esc (l.take (j + 1)) = esc (l.take j) ++ (if l.getD j 0 = 0 then [0, 255] else [l.getD j 0]) := by
  have : l.take (j + 1) = l.take j ++ [l.getD j 0] := by
    rw [List.take_add_one, List.getElem?_eq_getElem h]; simp [List.getD, h]
  rw [this, esc_app, esc_one]

/-- The key that a text begins with, and what stands behind its end. -/
def cut (acc : List Nat) : List Nat → Option (List Nat × List Nat)
  | [] => none
  | [c] => if c = 0 then none else none
  | c :: d :: r => if c = 0 then (if d = 1 then some (acc, r) else if d = 255 then cut (acc ++ [0]) r else none) else cut (acc ++ [c]) (d :: r)

theorem cut_nil (acc : List Nat) : cut acc [] = none := rfl
theorem cut_one (acc : List Nat) (c : Nat) : cut acc [c] = none := by simp [cut]
theorem cut_pos (acc : List Nat) (c : Nat) (r : List Nat) (h : c ≠ 0) : cut acc (c :: r) = cut (acc ++ [c]) r := by
  cases r with
  | nil => simp [cut]
  | cons d r => simp [cut, h]
theorem cut_end (acc r : List Nat) : cut acc (0 :: 1 :: r) = some (acc, r) := by simp [cut]
theorem cut_zero (acc r : List Nat) : cut acc (0 :: 255 :: r) = cut (acc ++ [0]) r := by simp [cut]
theorem cut_bad (acc r : List Nat) (d : Nat) (h1 : d ≠ 1) (h2 : d ≠ 255) : cut acc (0 :: d :: r) = none := by simp [cut, h1, h2]

theorem cut_esc (k : List Nat) : ∀ (acc r : List Nat), cut acc (esc k ++ 0 :: 1 :: r) = some (acc ++ k, r) := by
  induction k with
  | nil => intro acc r; simp [esc, cut_end]
  | cons c k ih =>
    intro acc r
    by_cases h0 : c = 0
    · subst h0
      rw [esc_zero, List.cons_append, List.cons_append, cut_zero, ih]; simp
    · rw [esc_pos c k h0, List.cons_append, cut_pos _ _ _ h0, ih]; simp
theorem cut_some (n : Nat) : ∀ (s acc : List Nat) (k r : List Nat), s.length ≤ n → cut acc s = some (k, r) → ∃ m, k = acc ++ m ∧ s = esc m ++ 0 :: 1 :: r := by
  induction n with
  | zero =>
    intro s acc k r hn h
    have : s = [] := List.eq_nil_of_length_eq_zero (by omega)
    subst this
    cases h
  | succ n ih =>
    intro s acc k r hn h
    cases s with
    | nil => cases h
    | cons c s =>
      by_cases h0 : c = 0
      · subst h0
        cases s with
        | nil => rw [cut_one] at h; cases h
        | cons d s =>
          by_cases h1 : d = 1
          · subst h1
            rw [cut_end] at h
            injection h with h
            injection h with h1 h2
            subst h1; subst h2
            exact ⟨[], by simp, rfl⟩
          · by_cases h2 : d = 255
            · subst h2
              rw [cut_zero] at h
              obtain ⟨m, e1, e2⟩ := ih s (acc ++ [0]) k r (by simp at hn; omega) h
              exact ⟨0 :: m, by simp [e1], by rw [esc_zero, e2]; simp⟩
            · rw [cut_bad _ _ _ h1 h2] at h; cases h
      · rw [cut_pos _ _ _ h0] at h
        obtain ⟨m, e1, e2⟩ := ih s (acc ++ [c]) k r (by simp at hn; omega) h
        exact ⟨c :: m, by simp [e1], by rw [esc_pos c m h0, e2]; simp⟩
theorem cut_iff (s k r : List Nat) : cut [] s = some (k, r) ↔ s = esc k ++ 0 :: 1 :: r := by
  constructor
  · intro h
    obtain ⟨m, e1, e2⟩ := cut_some s.length s [] k r (Nat.le_refl _) h
    simp at e1
    subst e1
    exact e2
  · rintro rfl
    simpa using cut_esc k [] r

/-- An entry's number: twice Seq, and 1 more if it is none that is gone; all bits turned. -/
def num2 (S : Nat) (d : Bool) : Nat := 2 * S + (if d then 0 else 1)
def turned (n : Nat) : Nat := 18446744073709551615 - n
def inner (k : List Nat) (S : Nat) (d : Bool) : List Nat := esc k ++ 0 :: 1 :: beB (turned (num2 S d)) 8
theorem num2_lt (S : Nat) (d : Bool) (h : S ≤ 72057594037927935) : num2 S d < 144115188075855872 := by unfold num2; cases d <;> simp <;> omega
theorem turned_turned (n : Nat) (h : n ≤ 18446744073709551615) : turned (turned n) = n := by unfold turned; omega
theorem inner_lt (k : List Nat) (S : Nat) (d : Bool) (h : ∀ c ∈ k, c < 256) : ∀ c ∈ inner k S d, c < 256 := by
  intro c hc
  simp only [inner, List.mem_append, List.mem_cons] at hc
  rcases hc with hc | rfl | rfl | hc
  · exact esc_lt k h c hc
  · omega
  · omega
  · exact beB_lt _ _ c hc
theorem inner_len (k : List Nat) (S : Nat) (d : Bool) : (inner k S d).length = (esc k).length + 10 := by simp [inner, beB_len]
theorem bv_beB (n k : Nat) (h : n < 256 ^ k) : bv (beB n k) k = n := by
  have hb := beB_lt n k
  -- both have the same digits
  have e : beB (bv (beB n k) k) k = beB n k := by
    rw [beB_bv (beB n k) hb k (by rw [beB_len]; exact Nat.le_refl _), List.take_of_length_le (by rw [beB_len]; exact Nat.le_refl _)]
  have hl := bv_lt (beB n k) hb k
  have inj : ∀ (k a b : Nat), a < 256 ^ k → b < 256 ^ k → (∀ j, j < k → a / 256 ^ j % 256 = b / 256 ^ j % 256) → a = b := by
    intro k
    induction k with
    | zero => intro a b ha hb _; simp at ha hb; omega
    | succ k ih =>
      intro a b ha hb hd
      have h0 := hd 0 (by omega)
      simp at h0
      have := ih (a / 256) (b / 256) (by rw [Nat.pow_succ] at ha; omega) (by rw [Nat.pow_succ] at hb; omega) (fun j hj => by
        have := hd (j + 1) (by omega)
        rw [Nat.pow_succ, Nat.mul_comm, ← Nat.div_div_eq_div_mul, ← Nat.div_div_eq_div_mul] at this
        exact this)
      omega
  refine inj k _ _ hl h fun j hj => ?_
  have h1 := congrArg (fun l => l.getD (k - 1 - j) 0) e
  simp only [beB_get _ _ _ (show k - 1 - j < k by omega)] at h1
  rw [show k - 1 - (k - 1 - j) = j by omega] at h1
  exact h1

end Go.Proofs.Ytalcdmpjpphopaa.M
