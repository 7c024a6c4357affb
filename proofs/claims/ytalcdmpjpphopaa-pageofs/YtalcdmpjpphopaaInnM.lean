/- Inners stand in the order of their entries. -/
import Derived.Test.YtalcdmpjpphopaaOutM
import Derived.Test.YtalcdmpjpphopaaChkM
namespace Go.Proofs.Ytalcdmpjpphopaa
set_option linter.unusedSimpArgs false
set_option linter.unusedVariables false
open Go.RowKit

/-- The number of bytes, the highest first, by the list. -/
def val : List Nat → Nat
  | [] => 0
  | c :: l => c * 256 ^ l.length + val l

theorem val_lt : ∀ (x : List Nat), (∀ c ∈ x, c < 256) → val x < 256 ^ x.length
  | [], _ => by simp [val]
  | c :: l, h => by
    have h1 := val_lt l (fun c hc => h c (by simp [hc]))
    have h2 := h c (by simp)
    have h3 : c * 256 ^ l.length ≤ 255 * 256 ^ l.length := Nat.mul_le_mul_right _ (by omega)
    simp only [val, List.length_cons, Nat.pow_succ]
    omega

theorem ofNat_lt (a b : Nat) (ha : a < 256) (hb : b < 256) : (UInt8.ofNat a < UInt8.ofNat b) ↔ a < b := by
  rw [UInt8.lt_iff_toNat_lt, UInt8.toNat_ofNat', UInt8.toNat_ofNat', Nat.mod_eq_of_lt ha, Nat.mod_eq_of_lt hb]

theorem less_val : ∀ (x y : List Nat), x.length = y.length → (∀ c ∈ x, c < 256) → (∀ c ∈ y, c < 256) → Op.bytesLess (x.map UInt8.ofNat) (y.map UInt8.ofNat) = decide (val x < val y)
  | [], [], _, _, _ => by simp [Op.bytesLess, val]
  | [], _ :: _, h, _, _ => by simp at h
  | _ :: _, [], h, _, _ => by simp at h
  | c :: x, d :: y, h, hx, hy => by
    have hl : x.length = y.length := by simpa using h
    have ih := less_val x y hl (fun c hc => hx c (by simp [hc])) (fun c hc => hy c (by simp [hc]))
    have h1 := val_lt x (fun c hc => hx c (by simp [hc]))
    have h2 := val_lt y (fun c hc => hy c (by simp [hc]))
    have hc := hx c (by simp)
    have hd := hy d (by simp)
    have hv1 : val (c :: x) = c * 256 ^ y.length + val x := by rw [val, hl]
    have hv2 : val (d :: y) = d * 256 ^ y.length + val y := by rw [val]
    simp only [List.map_cons, Op.bytesLess, ih]
    rw [hl] at h1
    rcases Nat.lt_trichotomy c d with hcd | hcd | hcd
    · have : decide (UInt8.ofNat c < UInt8.ofNat d) = true := by rw [decide_eq_true_eq]; exact (ofNat_lt c d hc hd).2 hcd
      rw [this, Bool.true_or]
      have h3 : (c + 1) * 256 ^ y.length ≤ d * 256 ^ y.length := Nat.mul_le_mul_right _ hcd
      rw [Nat.add_mul] at h3
      symm
      rw [decide_eq_true_eq, hv1, hv2]
      omega
    · subst hcd
      have : decide (UInt8.ofNat c < UInt8.ofNat c) = false := by rw [decide_eq_false_iff_not]; intro h'; have := (ofNat_lt c c hc hc).1 h'; omega
      rw [this, Bool.false_or, beq_self_eq_true, Bool.true_and]
      rw [decide_eq_decide, hv1, hv2]
      omega
    · have : decide (UInt8.ofNat c < UInt8.ofNat d) = false := by rw [decide_eq_false_iff_not]; intro h'; have := (ofNat_lt c d hc hd).1 h'; omega
      have h4 : (UInt8.ofNat c == UInt8.ofNat d) = false := by
        rw [beq_eq_false_iff_ne]
        intro h'
        have := ofNat_inj c d hc hd h'
        omega
      rw [this, h4, Bool.false_or, Bool.false_and]
      have h3 : (d + 1) * 256 ^ y.length ≤ c * 256 ^ y.length := Nat.mul_le_mul_right _ hcd
      rw [Nat.add_mul] at h3
      symm
      rw [decide_eq_false_iff_not, hv1, hv2]
      omega

theorem beB_succ (n k : Nat) : M.beB n (k + 1) = (n / 256 ^ k % 256) :: M.beB n k := by
  simp only [M.beB, M.beP, List.range_succ_eq_map, List.map_cons, List.map_map]
  congr 1
  apply List.map_congr_left
  intro i _
  simp only [Function.comp]
  congr 3
  omega
theorem val_beB (n k : Nat) : val (M.beB n k) = n % 256 ^ k := by
  induction k with
  | zero => simp [M.beB, M.beP, val, Nat.mod_one]
  | succ k ih => rw [beB_succ, val, ih, M.beB_len, Nat.pow_succ, Nat.mod_mul, Nat.mul_comm, Nat.add_comm]
theorem val_beB8 (n : Nat) (h : n < 18446744073709551616) : val (M.beB n 8) = n := by
  rw [val_beB]; exact Nat.mod_eq_of_lt (by simpa using h)
theorem less_beB (a b : Nat) (ha : a < 18446744073709551616) (hb : b < 18446744073709551616) : Op.bytesLess (strB (M.beB a 8)).toList (strB (M.beB b 8)).toList = decide (a < b) := by
  rw [strB_list, strB_list, less_val _ _ (by rw [M.beB_len, M.beB_len]) (M.beB_lt _ _) (M.beB_lt _ _), val_beB8 a ha, val_beB8 b hb]

abbrev u8s (l : List Nat) : List UInt8 := l.map UInt8.ofNat
theorem less_cons (c d : Nat) (x y : List Nat) (hc : c < 256) (hd : d < 256) : Op.bytesLess (u8s (c :: x)) (u8s (d :: y)) = (decide (c < d) || (decide (c = d) && Op.bytesLess (u8s x) (u8s y))) := by
  simp only [u8s, List.map_cons, Op.bytesLess]
  have h1 : decide (UInt8.ofNat c < UInt8.ofNat d) = decide (c < d) := by rw [decide_eq_decide]; exact ofNat_lt c d hc hd
  have h2 : (UInt8.ofNat c == UInt8.ofNat d) = decide (c = d) := by
    by_cases e : c = d
    · subst e; simp
    · rw [decide_eq_false e, beq_eq_false_iff_ne]; exact fun h => e (ofNat_inj c d hc hd h)
  rw [h1, h2]
theorem less_app (p x y : List Nat) (hp : ∀ c ∈ p, c < 256) : Op.bytesLess (u8s (p ++ x)) (u8s (p ++ y)) = Op.bytesLess (u8s x) (u8s y) := by
  induction p with
  | nil => rfl
  | cons c p ih =>
    have hc := hp c (by simp)
    rw [List.cons_append, List.cons_append, less_cons c c _ _ hc hc, ih (fun d hd => hp d (by simp [hd]))]
    simp
theorem less_esc : ∀ (k l : List Nat) (r t : List Nat), k ≠ l → (∀ c ∈ k, c < 256) → (∀ c ∈ l, c < 256) →
    Op.bytesLess (u8s (M.esc k ++ 0 :: 1 :: r)) (u8s (M.esc l ++ 0 :: 1 :: t)) = Op.bytesLess (u8s k) (u8s l)
  | [], [], _, _, h, _, _ => absurd rfl h
  | [], d :: l, r, t, _, _, hl => by
    have hd := hl d (by simp)
    by_cases h0 : d = 0
    · subst h0
      rw [M.esc_zero, M.esc_nil, List.nil_append, List.cons_append, List.cons_append, less_cons 0 0 _ _ (by omega) (by omega), less_cons 1 255 _ _ (by omega) (by omega)]
      rfl
    · rw [M.esc_pos d l h0, M.esc_nil, List.nil_append, List.cons_append, less_cons 0 d _ _ (by omega) hd, decide_eq_true (show 0 < d by omega)]
      rfl
  | c :: k, [], r, t, _, hk, _ => by
    have hc := hk c (by simp)
    by_cases h0 : c = 0
    · subst h0
      rw [M.esc_zero, M.esc_nil, List.nil_append, List.cons_append, List.cons_append, less_cons 0 0 _ _ (by omega) (by omega), less_cons 255 1 _ _ (by omega) (by omega)]
      rfl
    · rw [M.esc_pos c k h0, M.esc_nil, List.nil_append, List.cons_append, less_cons c 0 _ _ hc (by omega), decide_eq_false (show ¬ c < 0 by omega), decide_eq_false h0]
      rfl
  | c :: k, d :: l, r, t, h, hk, hl => by
    have hc := hk c (by simp)
    have hd := hl d (by simp)
    have hk' : ∀ c ∈ k, c < 256 := fun x hx => hk x (by simp [hx])
    have hl' : ∀ c ∈ l, c < 256 := fun x hx => hl x (by simp [hx])
    rw [less_cons c d k l hc hd]
    by_cases e : c = d
    · subst e
      have hkl : k ≠ l := fun e => h (by rw [e])
      have ih := less_esc k l r t hkl hk' hl'
      rw [decide_eq_false (show ¬ c < c by omega), decide_eq_true rfl, Bool.false_or, Bool.true_and]
      by_cases h0 : c = 0
      · subst h0
        rw [M.esc_zero, M.esc_zero, List.cons_append, List.cons_append, List.cons_append, List.cons_append, less_cons 0 0 _ _ (by omega) (by omega), less_cons 255 255 _ _ (by omega) (by omega), ih]
        simp
      · rw [M.esc_pos c k h0, M.esc_pos c l h0, List.cons_append, List.cons_append, less_cons c c _ _ hc hc, ih]
        simp
    · rw [decide_eq_false e, Bool.false_and, Bool.or_false]
      by_cases h0 : c = 0
      · subst h0
        have hd0 : d ≠ 0 := fun x => e x.symm
        rw [M.esc_zero, M.esc_pos d l hd0, List.cons_append, List.cons_append, List.cons_append, less_cons 0 d _ _ (by omega) hd, decide_eq_false e]
        simp
      · by_cases hd0 : d = 0
        · subst hd0
          rw [M.esc_pos c k h0, M.esc_zero, List.cons_append, List.cons_append, less_cons c 0 _ _ hc (by omega), decide_eq_false h0]
          simp
        · rw [M.esc_pos c k h0, M.esc_pos d l hd0, List.cons_append, List.cons_append, less_cons c d _ _ hc hd, decide_eq_false e]
          simp

/-- Inners stand in the order of their entries, if these are unlike in key or number. -/
theorem inner_less (k : List Nat) (S : Nat) (d : Bool) (l : List Nat) (T : Nat) (e : Bool) (hk : ∀ c ∈ k, c < 256) (hl : ∀ c ∈ l, c < 256) (hS : S ≤ 72057594037927935) (hT : T ≤ 72057594037927935)
    (h : cE (strB k) S (strB l) T ≠ 0) : Op.bytesLess (strB (M.inner k S d)).toList (strB (M.inner l T e)).toList = decide (cE (strB k) S (strB l) T < 0) := by
  rw [strB_list, strB_list]
  by_cases hkl : k = l
  · subst hkl
    have h1 := M.num2_lt S d hS
    have h2 := M.num2_lt T e hT
    have hb := less_beB (M.turned (M.num2 S d)) (M.turned (M.num2 T e)) (by unfold M.turned; omega) (by unfold M.turned; omega)
    rw [strB_list, strB_list] at hb
    have := less_app (M.esc k ++ [0, 1]) (M.beB (M.turned (M.num2 S d)) 8) (M.beB (M.turned (M.num2 T e)) 8) (by
      intro c hc
      simp only [List.mem_append, List.mem_cons, List.not_mem_nil, or_false] at hc
      rcases hc with hc | hc | hc
      · exact M.esc_lt k hk c hc
      · omega
      · omega)
    rw [List.append_assoc, List.append_assoc] at this
    unfold M.inner
    refine Eq.trans this ?_
    rw [hb, decide_eq_decide]
    rcases stand (strB k) (strB k) S T with q | q | q | q | q
    · have := q.2.1; simp at this
    · have := q.2.1; simp at this
    · rw [q.2.2.1]; have hq := q.2.1; unfold M.turned M.num2; cases d <;> cases e <;> simp <;> omega
    · rw [q.2.2.1]; have hq := q.2.1; unfold M.turned M.num2; cases d <;> cases e <;> simp <;> omega
    · exact absurd q.2.2.1 h
  · have := less_esc k l (M.beB (M.turned (M.num2 S d)) 8) (M.beB (M.turned (M.num2 T e)) 8) hkl hk hl
    unfold M.inner
    refine Eq.trans this ?_
    have e1 : Op.bytesLess (u8s k) (u8s l) = Op.bytesLess (strB k).toList (strB l).toList := by rw [strB_list, strB_list]
    rw [e1]
    have hne : strB k ≠ strB l := by
      intro hs
      have := congrArg ByteArray.toList hs
      rw [strB_list, strB_list] at this
      exact hkl (map_ofNat_inj k l hk hl this)
    rcases stand (strB k) (strB l) S T with q | q | q | q | q
    · rw [q.1, q.2.2.1]; decide
    · rw [q.1, q.2.2.1]; decide
    · exact absurd q.1 hne
    · exact absurd q.1 hne
    · exact absurd q.1 hne

/-- A digit of the turned number. -/
theorem turned_digit (n i : Nat) (hn : n ≤ 18446744073709551615) (hi : i ≤ 7) : M.turned n / 256 ^ i % 256 = 255 - n / 256 ^ i % 256 := by
  unfold M.turned
  have : i = 0 ∨ i = 1 ∨ i = 2 ∨ i = 3 ∨ i = 4 ∨ i = 5 ∨ i = 6 ∨ i = 7 := by omega
  rcases this with rfl | rfl | rfl | rfl | rfl | rfl | rfl | rfl <;> simp only [Nat.reducePow] <;> omega
end Go.Proofs.Ytalcdmpjpphopaa
