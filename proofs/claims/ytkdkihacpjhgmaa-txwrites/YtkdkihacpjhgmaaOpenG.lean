/- A slice of whatever elements that came in, opened: its elements' cells, each as a predicate tells. -/
import Derived.Test.YtkdkihacpjhgmaaRowN
import Derived.Test.YtkdkihacpjhgmaaArrIn
import Derived.Deep.Slices
namespace Go.Proofs.Ytkdkihacpjhgmaa
set_option linter.unusedSimpArgs false
set_option linter.unusedVariables false
open Go.RowKit Go.ChangeShapes Go.WideShapes Go.Deep

theorem flatten_at (s : Nat) : ∀ (css : List (List Value)), (∀ c ∈ css, c.length = s) → css.flatten.length = css.length * s ∧ ∀ j u, css.flatten[j]? = some u → ∃ i k c, css[i]? = some c ∧ c[k]? = some u ∧ j = i * s + k ∧ k < s := by
  intro css
  induction css with
  | nil => intro _; exact ⟨by simp, fun j u h => by simp at h⟩
  | cons c r ih =>
    intro hs
    have hc := hs c (by simp)
    obtain ⟨h1, h2⟩ := ih (fun d hd => hs d (by simp [hd]))
    refine ⟨by rw [List.flatten_cons, List.length_append, h1, hc, List.length_cons, Nat.succ_mul]; omega, fun j u h => ?_⟩
    rw [List.flatten_cons] at h
    by_cases hj : j < c.length
    · rw [List.getElem?_append_left hj] at h
      exact ⟨0, j, c, rfl, h, by omega, by omega⟩
    · rw [List.getElem?_append_right (by omega)] at h
      obtain ⟨i, k, d, e1, e2, e3, e4⟩ := h2 _ u h
      exact ⟨i + 1, k, d, by simpa using e1, e2, by rw [Nat.succ_mul]; omega, e4⟩
theorem list_of {α : Type} {p : Nat → α → Prop} (n : Nat) (h : ∀ i, i < n → ∃ x, p i x) : ∃ l : List α, l.length = n ∧ ∀ i x, l[i]? = some x → p i x := by
  induction n with
  | zero => exact ⟨[], rfl, fun i x h => by simp at h⟩
  | succ n ih =>
    obtain ⟨l, hl, hp⟩ := ih (fun i hi => h i (by omega))
    obtain ⟨y, hy⟩ := h n (by omega)
    refine ⟨l ++ [y], by simp [hl], fun i x hx => ?_⟩
    by_cases hi : i < l.length
    · rw [List.getElem?_append_left hi] at hx; exact hp i x hx
    · rw [List.getElem?_append_right (by omega)] at hx
      have h0 : i - l.length = 0 := by
        have := (List.getElem?_eq_some_iff.1 hx).1
        simp at this; omega
      rw [h0] at hx
      simp at hx
      subst hx
      have : i = n := by omega
      subst this
      exact hy
theorem open_sliceG {H : Type} {enc : TypeId × Value → H} {P : Program} {W : World} {base : Nat} {sp : Nat → Bool} {held : Bool} {fuel s : Nat} {t e : TypeId} {cs0 : List Value} {x : DataW H × List MemPlace} {T : List Value → Prop}
    (hu : P.underlying t = some (.slice e)) (hs : P.cellsOf e = s) (hs0 : 0 < s) (hT : ∀ fuel cs x, DataW.trod enc P W base sp held fuel e cs = some x → cs.length = s → T cs) (h : DataW.trod enc P W base sp held fuel t cs0 = some x) :
    ∃ (A : Option Addr) (n c : Nat) (css : List (List Value)), cs0 = [.slice A n c] ∧ css.length = n ∧ (∀ c ∈ css, T c ∧ c.length = s) ∧ RdN W W.heap.size s A n css.flatten ∧ n ≤ c ∧ c ≤ maxLen := by
  rcases open_slice hu h with ⟨hcs, _⟩ | ⟨a, len, cap, m, q, D, Pl, hcs, _, hl, hm, hmm, _, hi⟩
  · exact ⟨none, 0, 0, [], hcs, rfl, by simp, RdN.nil _ _ _ _, Nat.le_refl _, by unfold maxLen; omega⟩
  · have hlm : len ≤ m := by rw [hmm]; split <;> omega
    rw [hs] at hi
    obtain ⟨css, hlen, hcss⟩ := list_of (α := List Value) (p := fun i cs' => (T cs' ∧ cs'.length = s) ∧ ∀ k, k < s → W.cell? ((a.add (i * s)).add k) = cs'[k]?) len (fun i him => by
      obtain ⟨cs', hc, ht⟩ := hi i (by omega)
      obtain ⟨_, hl', hat⟩ := World.cells?_some hc
      exact ⟨cs', ⟨hT _ _ _ ht hl', hl'⟩, hat⟩)
    have hmem : ∀ c ∈ css, T c ∧ c.length = s := by
      intro c hc
      obtain ⟨j, hj, rfl⟩ := List.mem_iff_getElem.1 hc
      exact (hcss j _ (List.getElem?_eq_getElem hj)).1
    obtain ⟨hfl, hfa⟩ := flatten_at s css (fun c hc => (hmem c hc).2)
    refine ⟨some a, len, cap, css, hcs, hlen, hmem, ⟨by rw [hfl, hlen], fun hn => ?_⟩, hl, hm⟩
    have h0 := hcss 0 _ (List.getElem?_eq_getElem (by omega))
    have hc0 := h0.2 0 hs0
    have hlt0 : 0 < (css[0]'(by omega)).length := by rw [h0.1.2]; exact hs0
    rw [List.getElem?_eq_getElem hlt0] at hc0
    obtain ⟨b, off, rfl⟩ : ∃ b off, a = ⟨b, off, none⟩ := by
      obtain ⟨b, off, spot⟩ := a
      have hspot : spot = none := by simpa [Addr.add] using World.cell?_spot hc0
      subst hspot
      exact ⟨b, off, rfl⟩
    refine ⟨b, off, rfl, by simpa [Addr.add_lit] using World.block_lt_of_cell? _ _ hc0, fun j u hu => ?_⟩
    obtain ⟨i, k, c, e1, e2, rfl, e4⟩ := hfa j u hu
    have := (hcss i c e1).2 k e4
    simp only [Addr.add_lit] at this
    rw [← Nat.add_assoc, this, e2]
/-- The cells of an array of bytes. -/
theorem open_bys_cells {H : Type} {enc : TypeId × Value → H} {P : Program} {W : World} {base : Nat} {sp : Nat → Bool} {held : Bool} {fuel n : Nat} {t e : TypeId} {cs : List Value} {x : DataW H × List MemPlace}
    (hu : P.underlying t = some (.array n e)) (he : P.underlying e = some (.int .u8)) (hc : P.cellsOf e = 1) (hct : P.cellsOf t = n) (hd : DataW.trod enc P W base sp held fuel t cs = some x) :
    ∃ hs : List Nat, cs = bys hs ∧ hs.length = n ∧ ∀ c ∈ hs, c < 256 := by
  obtain ⟨xs, m, rfl, hx, hl, hxl, hat⟩ := DataW.trod_array hu hd
  rw [hct] at hl
  obtain ⟨hs, e1, hb⟩ := bys_of cs (fun i hi => by
    have h1 := hat i (by omega)
    rw [hc, Nat.mul_one] at h1
    have hxi : i < xs.length := by omega
    rw [List.getElem?_eq_getElem hxi] at h1
    obtain ⟨a, ea, _, wa⟩ := DataW.trod_int he h1
    have hget : cs[i]? = some (.int .u8 a) := by
      have : (cs.drop i).head? = some (.int .u8 a) := by
        cases hdr : cs.drop i with
        | nil => rw [hdr] at ea; simp at ea
        | cons q rr => rw [hdr] at ea; simp at ea; simp [ea]
      simpa [List.head?_drop] using this
    refine ⟨a, hget, ?_⟩
    simp [Lit.wf, IntKind.min, IntKind.max, IntKind.signed, IntKind.bits] at wa
    omega)
  refine ⟨hs, e1, ?_, hb⟩
  have := congrArg List.length e1
  rw [bys_len] at this
  omega
end Go.Proofs.Ytkdkihacpjhgmaa
