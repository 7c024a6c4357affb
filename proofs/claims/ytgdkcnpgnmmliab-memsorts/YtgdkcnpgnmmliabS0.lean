/- The place of a thing in a list that is in order. -/
import Derived.Test.YtgdkcnpgnmmliabChkM
namespace Go.Proofs.Ytgdkcnpgnmmliab
set_option linter.unusedSimpArgs false
set_option linter.unusedVariables false

section
variable {α : Type} (c : α → α → Int)
/-- How many stand ahead of x. -/
def pos (L : List α) (x : α) : Nat := (L.takeWhile fun y => decide (c y x < 0)).length
/-- .. whether one stands in its place. -/
def hit (L : List α) (x : α) : Bool := match L[pos c L x]? with | some y => decide (c y x = 0) | none => false
def ins (L : List α) (x : α) : List α := L.take (pos c L x) ++ x :: L.drop (pos c L x)
theorem pos_le (L : List α) (x : α) : pos c L x ≤ L.length := (List.takeWhile_sublist _).length_le
theorem pos_lt (x : α) : ∀ (L : List α) (i : Nat) (y : α), i < pos c L x → L[i]? = some y → c y x < 0
  | [], i, y, h, hy => by simp at hy
  | z :: L, i, y, h, hy => by
    unfold pos at h
    rw [List.takeWhile_cons] at h
    split at h
    · rename_i hz
      cases i with
      | zero => simp at hy; subst hy; simpa using hz
      | succ i => exact pos_lt x L i y (by unfold pos; simpa using h) (by simpa using hy)
    · simp at h
theorem pos_ge (x : α) : ∀ (L : List α) (y : α), L[pos c L x]? = some y → ¬ c y x < 0
  | [], y, hy => by simp at hy
  | z :: L, y, hy => by
    unfold pos at hy
    rw [List.takeWhile_cons] at hy
    split at hy
    · exact pos_ge x L y (by unfold pos; simpa using hy)
    · rename_i hz
      simp at hy
      subst hy
      simpa using hz
/-- .. it is the only place of which that can be said. -/
theorem pos_eq (L : List α) (x : α) (i : Nat) (hi : i ≤ L.length) (h1 : ∀ m y, m < i → L[m]? = some y → c y x < 0) (h2 : ∀ y, L[i]? = some y → ¬ c y x < 0) : pos c L x = i := by
  rcases Nat.lt_trichotomy (pos c L x) i with h | h | h
  · have hl : pos c L x < L.length := by omega
    exact absurd (h1 _ _ h (List.getElem?_eq_getElem hl)) (pos_ge c x L _ (List.getElem?_eq_getElem hl))
  · exact h
  · have hl : i < L.length := by have := pos_le c L x; omega
    exact absurd (pos_lt c x L i _ h (List.getElem?_eq_getElem hl)) (h2 _ (List.getElem?_eq_getElem hl))
theorem ins_length (L : List α) (x : α) : (ins c L x).length = L.length + 1 := by
  have := pos_le c L x
  unfold ins; simp; omega

/-- c is an order of all that ok says. -/
structure Ord3 : Prop where
  refl : ∀ x, c x x = 0
  anti : ∀ x y, c x y < 0 ↔ 0 < c y x
  trans : ∀ x y z, c x y < 0 → c y z < 0 → c x z < 0
  left : ∀ x y z, c x y = 0 → c y z < 0 → c x z < 0
  right : ∀ x y z, c x y < 0 → c y z = 0 → c x z < 0
/-- In order, each place once. -/
def Srt (L : List α) : Prop := L.Pairwise fun a b => c a b < 0
variable {c}
theorem Ord3.zero (o : Ord3 c) (x y : α) (h : c x y = 0) : c y x = 0 := by
  by_cases h1 : c y x < 0
  · have := (o.anti y x).1 h1; omega
  · by_cases h2 : 0 < c y x
    · have := (o.anti x y).2 h2; omega
    · omega
theorem Srt.mono (o : Ord3 c) {L : List α} (h : Srt c L) (x : α) (i j : Nat) (a b : α) (hij : i ≤ j) (ha : L[i]? = some a) (hb : L[j]? = some b) (hc : c b x < 0) : c a x < 0 := by
  rcases Nat.lt_or_eq_of_le hij with k | k
  · obtain ⟨hi, rfl⟩ := List.getElem?_eq_some_iff.1 ha
    obtain ⟨hj, rfl⟩ := List.getElem?_eq_some_iff.1 hb
    exact o.trans _ _ _ (List.pairwise_iff_getElem.1 h i j hi hj k) hc
  · subst k; rw [ha] at hb; cases hb; exact hc
theorem Srt.ahead (o : Ord3 c) {L : List α} (h : Srt c L) (x : α) (a : α) (ha : a ∈ L.take (pos c L x)) : c a x < 0 := by
  obtain ⟨i, hi, rfl⟩ := List.mem_iff_getElem.1 ha
  rw [List.length_take] at hi
  rw [List.getElem_take]
  exact pos_lt c x L i _ (by omega) (List.getElem?_eq_getElem (by omega))
theorem Srt.behind (o : Ord3 c) {L : List α} (h : Srt c L) (x : α) (hh : hit c L x = false) (a : α) (ha : a ∈ L.drop (pos c L x)) : c x a < 0 := by
  obtain ⟨i, hi, rfl⟩ := List.mem_iff_getElem.1 ha
  rw [List.length_drop] at hi
  rw [List.getElem_drop]
  have hl : pos c L x < L.length := by omega
  have h0 := pos_ge c x L _ (List.getElem?_eq_getElem hl)
  have h1 : ¬ c L[pos c L x] x = 0 := by
    unfold hit at hh
    rw [List.getElem?_eq_getElem hl] at hh
    simpa using hh
  have h2 : c x L[pos c L x] < 0 := (o.anti _ _).2 (by omega)
  cases i with
  | zero => exact h2
  | succ i => exact o.trans _ _ _ h2 (List.pairwise_iff_getElem.1 h _ _ hl (by omega) (by omega))
theorem Srt.ins (o : Ord3 c) {L : List α} (h : Srt c L) (x : α) (hh : hit c L x = false) : Srt c (ins c L x) := by
  unfold Srt Proofs.Ytgdkcnpgnmmliab.ins
  rw [List.pairwise_append]
  refine ⟨h.sublist (List.take_sublist _ _), List.pairwise_cons.2 ⟨fun a ha => h.behind o x hh a ha, h.sublist (List.drop_sublist _ _)⟩, fun a ha b hb => ?_⟩
  rcases List.mem_cons.1 hb with rfl | hb
  · exact h.ahead o _ a ha
  · exact o.trans _ _ _ (h.ahead o x a ha) (h.behind o x hh b hb)
theorem Srt.hit_mem (o : Ord3 c) {L : List α} (h : Srt c L) (x : α) : hit c L x = true ↔ ∃ y ∈ L, c y x = 0 := by
  constructor
  · intro hh
    unfold hit at hh
    split at hh
    · rename_i y hy
      exact ⟨y, List.mem_of_getElem? hy, by simpa using hh⟩
    · cases hh
  · rintro ⟨y, hy, h0⟩
    cases hb : hit c L x with
    | true => rfl
    | false =>
      rw [← List.take_append_drop (pos c L x) L] at hy
      rcases List.mem_append.1 hy with hy | hy
      · have := h.ahead o x y hy; omega
      · have := (o.anti _ _).1 (h.behind o x hb y hy); omega
theorem mem_ins (L : List α) (x a : α) : a ∈ ins c L x ↔ a = x ∨ a ∈ L := by
  unfold ins
  rw [List.mem_append, List.mem_cons]
  constructor
  · rintro (h | h | h)
    · exact .inr (List.mem_of_mem_take h)
    · exact .inl h
    · exact .inr (List.mem_of_mem_drop h)
  · rintro (h | h)
    · exact .inr (.inl h)
    · rw [← List.take_append_drop (pos c L x) L] at h
      rcases List.mem_append.1 h with h | h
      · exact .inl h
      · exact .inr (.inr h)
theorem ins_perm (L : List α) (x : α) : (ins c L x).Perm (x :: L) := by
  unfold ins
  refine List.perm_middle.trans ?_
  rw [List.take_append_drop]
/-- How many are ahead, counted. -/
theorem Srt.pos_count (o : Ord3 c) {L : List α} (h : Srt c L) (x : α) : pos c L x = L.countP fun y => decide (c y x < 0) := by
  conv => rhs; rw [← List.take_append_drop (pos c L x) L]
  rw [List.countP_append, List.countP_eq_length.2 (fun a ha => by simpa using h.ahead o x a ha), List.countP_eq_zero.2, List.length_take, Nat.min_eq_left (pos_le c L x), Nat.add_zero]
  intro a ha
  simp only [decide_eq_true_eq]
  intro hlt
  obtain ⟨i, hi, rfl⟩ := List.mem_iff_getElem.1 ha
  rw [List.length_drop] at hi
  rw [List.getElem_drop] at hlt
  have hl : pos c L x < L.length := by omega
  exact pos_ge c x L _ (List.getElem?_eq_getElem hl) (h.mono o x _ (pos c L x + i) _ _ (by omega) (List.getElem?_eq_getElem hl) (List.getElem?_eq_getElem (by omega)) hlt)
/-- Two lists in order that have the same are one. -/
theorem Srt.unique (o : Ord3 c) : ∀ {L M : List α}, Srt c L → Srt c M → L.Perm M → L = M
  | [], M, _, _, p => (List.nil_perm.1 p).symm
  | x :: L, [], _, _, p => absurd p.symm (by simp)
  | x :: L, y :: M, hL, hM, p => by
    have irr : ∀ a, ¬ c a a < 0 := fun a h => by rw [o.refl] at h; omega
    have e : x = y := by
      have hx : x ∈ y :: M := p.subset (by simp)
      have hy : y ∈ x :: L := p.symm.subset (by simp)
      rcases List.mem_cons.1 hx with h | h
      · exact h
      · rcases List.mem_cons.1 hy with k | k
        · exact k.symm
        · exact absurd (o.trans _ _ _ ((List.pairwise_cons.1 hL).1 y k) ((List.pairwise_cons.1 hM).1 x h)) (irr _)
    subst e
    rw [Srt.unique o (List.pairwise_cons.1 hL).2 (List.pairwise_cons.1 hM).2 (List.Perm.cons_inv p)]
end
end Go.Proofs.Ytgdkcnpgnmmliab
