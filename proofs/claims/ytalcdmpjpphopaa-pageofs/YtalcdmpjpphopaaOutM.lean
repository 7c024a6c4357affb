/- A text taken apart from behind: it is an Inner just if its tail and its front are right. -/
import Derived.Test.YtalcdmpjpphopaaK4
namespace Go.Proofs.Ytalcdmpjpphopaa
set_option linter.unusedSimpArgs false
set_option linter.unusedVariables false
open Go.RowKit

/-- How many bytes of a key stand escaped, if they do. -/
def unc : List Nat → Option Nat
  | [] => some 0
  | [c] => if c = 0 then none else some 1
  | c :: d :: r => if c = 0 then (if d = 255 then (unc r).map (· + 1) else none) else (unc (d :: r)).map (· + 1)
theorem unc_pos (c : Nat) (r : List Nat) (h : c ≠ 0) : unc (c :: r) = (unc r).map (· + 1) := by
  cases r with
  | nil => simp [unc, h]
  | cons d r => rw [unc, if_neg h]
theorem unc_zero (r : List Nat) : unc (0 :: 255 :: r) = (unc r).map (· + 1) := by simp [unc]
theorem unc_bad (d : Nat) (r : List Nat) (h : d ≠ 255) : unc (0 :: d :: r) = none := by simp [unc, h]
theorem unc_one : unc [0] = none := by simp [unc]
theorem unc_esc (k : List Nat) : unc (M.esc k) = some k.length := by
  induction k with
  | nil => rfl
  | cons c k ih =>
    by_cases h : c = 0
    · subst h; rw [M.esc_zero, unc_zero, ih]; rfl
    · rw [M.esc_pos c k h, unc_pos _ _ h, ih]; rfl
theorem unc_some (m : Nat) : ∀ (p : List Nat) (n : Nat), p.length ≤ m → unc p = some n → ∃ k, p = M.esc k ∧ k.length = n := by
  induction m with
  | zero =>
    intro p n hm h
    have : p = [] := List.eq_nil_of_length_eq_zero (by omega)
    subst this
    injection h with h
    exact ⟨[], rfl, h⟩
  | succ m ih =>
    intro p n hm h
    cases p with
    | nil => injection h with h; exact ⟨[], rfl, h⟩
    | cons c p =>
      by_cases h0 : c = 0
      · subst h0
        cases p with
        | nil => rw [unc_one] at h; cases h
        | cons d p =>
          by_cases hd : d = 255
          · subst hd
            rw [unc_zero] at h
            cases hu : unc p with
            | none => rw [hu] at h; cases h
            | some q =>
              rw [hu] at h
              injection h with h
              obtain ⟨k, e, hk⟩ := ih p q (by simp at hm; omega) hu
              exact ⟨0 :: k, by rw [M.esc_zero, e], by simp [hk]; omega⟩
          · rw [unc_bad _ _ hd] at h; cases h
      · rw [unc_pos _ _ h0] at h
        cases hu : unc p with
        | none => rw [hu] at h; cases h
        | some q =>
          rw [hu] at h
          injection h with h
          obtain ⟨k, e, hk⟩ := ih p q (by simp at hm; omega) hu
          exact ⟨c :: k, by rw [M.esc_pos _ _ h0, e], by simp [hk]; omega⟩

/-- The tail: 0, 1 and eight bytes, the first of which is at least 254. -/
def tailOk (s : List Nat) : Bool := decide (11 ≤ s.length) && (decide ((s.drop (s.length - 10)).take 2 = [0, 1]) && decide (254 ≤ s.getD (s.length - 8) 0))
def fin (s : List Nat) : Bool := tailOk s && (match unc (s.take (s.length - 10)) with | some n => decide (n ≤ 128) | none => false)

theorem bv8 (r : List Nat) (hb : ∀ c ∈ r, c < 256) : M.bv r 8 / 256 ^ 7 = r.getD 0 0 := by
  have h1 := M.bv_digit r hb 8 0 (by omega)
  have h2 := M.bv_lt r hb 8
  rw [show 8 - 1 - 0 = 7 from rfl, Nat.mod_eq_of_lt (by rw [Nat.div_lt_iff_lt_mul (by decide)]; exact h2)] at h1
  exact h1

theorem fin_yes (k : List Nat) (S : Nat) (d : Bool) (hok : okE k S) : fin (M.inner k S d) = true := by
  have hn := M.num2_lt S d hok.2.2
  have hl := M.inner_len k S d
  have hel := M.esc_len k
  have hk0 : k.length ≠ 0 := fun e => hok.1 (List.eq_nil_of_length_eq_zero e)
  have ht : (M.inner k S d).take ((M.inner k S d).length - 10) = M.esc k := by
    rw [hl, show (M.esc k).length + 10 - 10 = (M.esc k).length by omega]; simp [M.inner]
  have hd : (M.inner k S d).drop ((M.inner k S d).length - 10) = 0 :: 1 :: M.beB (M.turned (M.num2 S d)) 8 := by
    rw [hl, show (M.esc k).length + 10 - 10 = (M.esc k).length by omega]; simp [M.inner]
  have h8 : (M.inner k S d).getD ((M.inner k S d).length - 8) 0 = (M.beB (M.turned (M.num2 S d)) 8).getD 0 0 := by
    rw [hl]
    simp only [M.inner, List.getD_eq_getElem?_getD]
    rw [List.getElem?_append_right (by omega), show (M.esc k).length + 10 - 8 - (M.esc k).length = 2 by omega]
    rfl
  unfold fin tailOk
  rw [ht, unc_esc, hd, h8, M.beB_get _ _ _ (by omega)]
  have e7 : (256 : Nat) ^ (8 - 1 - 0) = 72057594037927936 := by decide
  rw [e7]
  have ht1 : M.turned (M.num2 S d) / 72057594037927936 % 256 ≥ 254 := by unfold M.turned; omega
  simp [hl]
  refine ⟨⟨by omega, by omega⟩, hok.2.1⟩

theorem fin_no (s : List Nat) (hs : ∀ c ∈ s, c < 256) (h : fin s = true) : ∃ k S d, okE k S ∧ s = M.inner k S d := by
  unfold fin tailOk at h
  simp only [Bool.and_eq_true, decide_eq_true_eq] at h
  obtain ⟨⟨h11, h01, h254⟩, hu⟩ := h
  cases hq : unc (s.take (s.length - 10)) with
  | none => rw [hq] at hu; cases hu
  | some n =>
    rw [hq] at hu
    simp only [decide_eq_true_eq] at hu
    obtain ⟨k, e, hk⟩ := unc_some _ _ n (Nat.le_refl _) hq
    have hsp : s = s.take (s.length - 10) ++ ((s.drop (s.length - 10)).take 2 ++ (s.drop (s.length - 10)).drop 2) := by
      rw [List.take_append_drop, List.take_append_drop]
    rw [e, h01, List.drop_drop, show s.length - 10 + 2 = s.length - 8 by omega] at hsp
    have hrl : (s.drop (s.length - 8)).length = 8 := by rw [List.length_drop]; omega
    have hrb : ∀ c ∈ s.drop (s.length - 8), c < 256 := fun c hc => hs c (List.mem_of_mem_drop hc)
    have hr0 : (s.drop (s.length - 8)).getD 0 0 = s.getD (s.length - 8) 0 := by simp [List.getD_eq_getElem?_getD]
    have hkl := congrArg List.length e
    rw [List.length_take] at hkl
    have hel := M.esc_len k
    generalize s.drop (s.length - 8) = r at *
    have h8 := bv8 r hrb
    have hbv := M.bv_lt r hrb 8
    rw [hr0] at h8
    refine ⟨k, nmb r / 2, (nmb r % 2 == 0), ⟨?_, by omega, ?_⟩, ?_⟩
    · intro e0; subst e0; simp [M.esc] at hkl; omega
    · have e7 : (256 : Nat) ^ 7 = 72057594037927936 := by decide
      rw [e7] at h8
      unfold nmb M.turned; omega
    · have hn2 : M.num2 (nmb r / 2) (nmb r % 2 == 0) = nmb r := by
        unfold M.num2
        by_cases hh : nmb r % 2 = 0
        · rw [if_pos (by simpa using hh)]; omega
        · rw [if_neg (by simpa using hh)]; omega
      unfold M.inner
      rw [hn2, nmb, M.turned_turned _ (by omega), M.beB_bv r hrb 8 (by omega), List.take_of_length_le (by omega)]
      exact hsp
end Go.Proofs.Ytalcdmpjpphopaa
