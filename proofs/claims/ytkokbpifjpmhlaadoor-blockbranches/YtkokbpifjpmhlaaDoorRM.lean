/- Long numbers in parts of 16 bits. -/
set_option linter.unusedSimpArgs false
set_option linter.unusedVariables false
namespace Go.Proofs.YtkokbpifjpmhlaaDoor.L

def val : List Nat → Nat
  | [] => 0
  | x :: r => x + 65536 * val r
def Dig (l : List Nat) : Prop := ∀ x ∈ l, x < 65536

theorem val_set (l : List Nat) (i v : Nat) (h : i < l.length) : val (l.set i v) + l.getD i 0 * 65536 ^ i = val l + v * 65536 ^ i := by
  induction l generalizing i with
  | nil => simp at h
  | cons x r ih =>
    cases i with
    | zero => simp [val]; omega
    | succ i =>
      have := ih i (by simpa using h)
      simp only [List.set_cons_succ, val, List.getD_cons_succ, Nat.pow_succ]
      have e1 : r.getD i 0 * (65536 ^ i * 65536) = 65536 * (r.getD i 0 * 65536 ^ i) := by rw [← Nat.mul_assoc, Nat.mul_comm]
      have e2 : v * (65536 ^ i * 65536) = 65536 * (v * 65536 ^ i) := by rw [← Nat.mul_assoc, Nat.mul_comm]
      rw [e1, e2]
      omega
theorem val_take (l : List Nat) (k : Nat) (h : k < l.length) : val (l.take (k + 1)) = val (l.take k) + l.getD k 0 * 65536 ^ k := by
  induction l generalizing k with
  | nil => simp at h
  | cons x r ih =>
    cases k with
    | zero => simp [val]
    | succ k =>
      have := ih k (by simpa using h)
      simp only [List.take_succ_cons, val, List.getD_cons_succ, this, Nat.pow_succ]
      have e1 : r.getD k 0 * (65536 ^ k * 65536) = 65536 * (r.getD k 0 * 65536 ^ k) := by rw [← Nat.mul_assoc, Nat.mul_comm]
      rw [e1]; omega
theorem val_zero (n : Nat) : val (List.replicate n 0) = 0 := by
  induction n with
  | zero => rfl
  | succ n ih => simp [List.replicate_succ, val, ih]
theorem val_app (a b : List Nat) : val (a ++ b) = val a + 65536 ^ a.length * val b := by
  induction a with
  | nil => simp [val]
  | cons x r ih =>
    simp only [List.cons_append, val, ih, List.length_cons, Nat.pow_succ]
    have : 65536 ^ r.length * 65536 * val b = 65536 * (65536 ^ r.length * val b) := by rw [Nat.mul_comm (65536 ^ r.length), Nat.mul_assoc]
    omega
theorem val_congr (a b : List Nat) (h : ∀ j, a.getD j 0 = b.getD j 0) : val a = val b := by
  induction a generalizing b with
  | nil =>
    induction b with
    | nil => rfl
    | cons y s ih =>
      have h0 := h 0
      have := ih (fun j => by simpa using h (j + 1))
      simp [val] at *
      omega
  | cons x r ih =>
    cases b with
    | nil =>
      have h0 := h 0
      have := ih [] (fun j => by simpa using h (j + 1))
      simp [val] at *
      omega
    | cons y s =>
      have h0 := h 0
      have := ih s (fun j => by simpa using h (j + 1))
      simp [val] at *
      omega
theorem Dig.tail {x : Nat} {r : List Nat} (h : Dig (x :: r)) : Dig r := fun y hy => h y (by simp [hy])
theorem getD_dig {l : List Nat} (h : Dig l) (i : Nat) : l.getD i 0 < 65536 := by
  by_cases hi : i < l.length
  · rw [List.getD_eq_getElem?_getD, List.getElem?_eq_getElem hi]; exact h _ (List.getElem_mem hi)
  · rw [List.getD_eq_getElem?_getD, List.getElem?_eq_none (by omega)]; simp
theorem val_cons (x : Nat) (l : List Nat) : ∃ r, val l = l.getD 0 0 + 65536 * val r ∧ (∀ j, r.getD j 0 = l.getD (j + 1) 0) ∧ (Dig l → Dig r) := by
  cases l with
  | nil => exact ⟨[], by simp [val], by simp, id⟩
  | cons y r => exact ⟨r, by simp [val], by simp, Dig.tail⟩
theorem val_lt (i : Nat) : ∀ (a b : List Nat), Dig a → Dig b → (∀ j, i < j → a.getD j 0 = b.getD j 0) → a.getD i 0 < b.getD i 0 → val a < val b := by
  induction i with
  | zero =>
    intro a b ha hb hj hi
    obtain ⟨r, e1, f1, _⟩ := val_cons 0 a
    obtain ⟨s, e2, f2, _⟩ := val_cons 0 b
    have : val r = val s := val_congr r s (fun j => by rw [f1, f2]; exact hj (j + 1) (by omega))
    omega
  | succ i ih =>
    intro a b ha hb hj hi
    obtain ⟨r, e1, f1, d1⟩ := val_cons 0 a
    obtain ⟨s, e2, f2, d2⟩ := val_cons 0 b
    have := ih r s (d1 ha) (d2 hb) (fun j h => by rw [f1, f2]; exact hj (j + 1) (by omega)) (by rw [f1, f2]; exact hi)
    have := getD_dig ha 0
    omega
theorem getD_set (l : List Nat) (i v j : Nat) (hi : i < l.length) : (l.set i v).getD j 0 = if j = i then v else l.getD j 0 := by
  simp only [List.getD_eq_getElem?_getD, List.getElem?_set]
  by_cases e : i = j
  · subst e; simp [hi]
  · simp [e, Ne.symm e]
theorem Dig.set {l : List Nat} (h : Dig l) (i v : Nat) (hv : v < 65536) : Dig (l.set i v) := by
  intro x hx
  rcases List.mem_or_eq_of_mem_set hx with h1 | h1
  · exact h x h1
  · omega

/-- The state of the inner loop of 'times': behind k parts of b. -/
structure Inn (L0 L : List Nat) (i x : Nat) (b : List Nat) (k c : Nat) : Prop where
  len : L.length = L0.length
  dig : Dig L
  car : c < 65536
  sum : val L + c * 65536 ^ (i + k) = val L0 + x * val (b.take k) * 65536 ^ i
  rest : ∀ j, i + k ≤ j → L.getD j 0 = L0.getD j 0

theorem Inn.step {L0 L : List Nat} {i x : Nat} {b : List Nat} {k c : Nat} (h : Inn L0 L i x b k c) (hx : x < 65536) (hb : Dig b) (hk : k < b.length) (hl : i + k < L0.length) :
    Inn L0 (L.set (i + k) ((L.getD (i + k) 0 + x * b.getD k 0 + c) % 65536)) i x b (k + 1) ((L.getD (i + k) 0 + x * b.getD k 0 + c) / 65536) := by
  have hil : i + k < L.length := by rw [h.len]; exact hl
  have d1 := getD_dig h.dig (i + k)
  have d2 := getD_dig hb k
  have d3 : x * b.getD k 0 ≤ 65535 * 65535 := Nat.mul_le_mul (by omega) (by omega)
  have hv := val_set L (i + k) ((L.getD (i + k) 0 + x * b.getD k 0 + c) % 65536) hil
  have ht := val_take b k hk
  have hs := h.sum
  generalize L.getD (i + k) 0 = l at *
  refine ⟨by simp [h.len], h.dig.set _ _ (Nat.mod_lt _ (by decide)), by have := h.car; omega, ?_, ?_⟩
  · rw [ht]
    have e0 : 65536 ^ (i + (k + 1)) = 65536 * 65536 ^ (i + k) := by rw [← Nat.add_assoc, Nat.pow_succ, Nat.mul_comm]
    have e1 : x * (val (b.take k) + b.getD k 0 * 65536 ^ k) * 65536 ^ i = x * val (b.take k) * 65536 ^ i + x * b.getD k 0 * 65536 ^ (i + k) := by
      rw [Nat.mul_add, Nat.add_mul, Nat.pow_add]
      congr 1
      rw [Nat.mul_comm (65536 ^ i), ← Nat.mul_assoc, ← Nat.mul_assoc, Nat.mul_assoc (x * b.getD k 0)]
    rw [e0, e1]
    generalize x * b.getD k 0 = xy at *
    generalize 65536 ^ (i + k) = P at *
    have hn : (l + xy + c) % 65536 * P + (l + xy + c) / 65536 * (65536 * P) = (l + xy + c) * P := by
      have := Nat.div_add_mod (l + xy + c) 65536
      have e : (l + xy + c) / 65536 * (65536 * P) = 65536 * ((l + xy + c) / 65536) * P := by rw [← Nat.mul_assoc, Nat.mul_comm ((l + xy + c) / 65536)]
      rw [e, ← Nat.add_mul]
      congr 1
      omega
    have e2 : (l + xy + c) * P = l * P + xy * P + c * P := by rw [Nat.add_mul, Nat.add_mul]
    omega
  · intro j hj
    rw [getD_set _ _ _ _ hil, if_neg (by omega)]
    exact h.rest j (by omega)

/-- The state of the outer loop: behind i parts of a. -/
structure Out (L a b : List Nat) (i : Nat) : Prop where
  len : L.length = a.length + b.length
  dig : Dig L
  sum : val L = val (a.take i) * val b
  rest : ∀ j, i + b.length ≤ j → L.getD j 0 = 0
theorem Out.start (a b : List Nat) : Out (List.replicate (a.length + b.length) 0) a b 0 :=
  ⟨by simp, fun x hx => by simp at hx; omega, by simp [val_zero, val], fun j _ => by simp [List.getD_eq_getElem?_getD, List.getElem?_replicate]; split <;> rfl⟩
theorem Inn.start {L a b : List Nat} {i : Nat} (h : Out L a b i) (x : Nat) : Inn L L i x b 0 0 := ⟨rfl, h.dig, by omega, by simp [val], fun _ _ => rfl⟩
theorem Out.step {L0 L a b : List Nat} {i c : Nat} (h : Out L0 a b i) (hi : i < a.length) (k : Inn L0 L i (a.getD i 0) b b.length c) :
    Out (L.set (i + b.length) (L.getD (i + b.length) 0 + c)) a b (i + 1) ∧ L.getD (i + b.length) 0 = 0 := by
  have hz : L.getD (i + b.length) 0 = 0 := by rw [k.rest _ (Nat.le_refl _)]; exact h.rest _ (Nat.le_refl _)
  have hil : i + b.length < L.length := by rw [k.len, h.len]; omega
  have hv := val_set L (i + b.length) (L.getD (i + b.length) 0 + c) hil
  have hs := k.sum
  rw [List.take_length, h.sum] at hs
  refine ⟨⟨by simp [k.len, h.len], k.dig.set _ _ (by have := k.car; omega), ?_, fun j hj => ?_⟩, hz⟩
  · rw [val_take a i hi]
    have e : (val (a.take i) + a.getD i 0 * 65536 ^ i) * val b = val (a.take i) * val b + a.getD i 0 * val b * 65536 ^ i := by
      rw [Nat.add_mul]; congr 1
      rw [Nat.mul_assoc, Nat.mul_assoc, Nat.mul_comm (65536 ^ i)]
    rw [e]
    rw [hz] at hv ⊢
    simp only [Nat.zero_mul, Nat.add_zero, Nat.zero_add] at hv ⊢
    omega
  · rw [getD_set _ _ _ _ hil, if_neg (by omega)]
    rw [k.rest j (by omega)]
    exact h.rest j (by omega)
theorem Out.done {L a b : List Nat} (h : Out L a b a.length) : val L = val a * val b := by have := h.sum; rwa [List.take_length] at this

def prs (n : Nat) : List Nat := [n % 65536, n / 65536 % 65536, n / 4294967296]
theorem prs_val (n : Nat) : val (prs n) = n := by simp [prs, val]; omega
theorem prs_dig (n : Nat) (h : n < 281474976710656) : Dig (prs n) := by
  intro x hx
  simp [prs] at hx
  omega
end Go.Proofs.YtkokbpifjpmhlaaDoor.L
