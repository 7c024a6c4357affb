/- Changes as pairs (pure): what is made of them in order. -/
import Derived.Test.YtalcdmpjpphopaaPE
import Derived.Test.YtalcdmpjpphopaaE0
namespace Go.Proofs.Ytalcdmpjpphopaa
set_option linter.unusedSimpArgs false
set_option linter.unusedVariables false
open Go.RowKit

/-- A text's bytes. -/
def bl (s : ByteArray) : List Nat := s.data.toList.map UInt8.toNat
theorem strB_bl (s : ByteArray) : strB (bl s) = s := by
  unfold strB bl
  rw [List.map_map]
  have e : (UInt8.ofNat ∘ UInt8.toNat) = id := by funext x; simp
  rw [e, List.map_id]
theorem bl_lt (s : ByteArray) : ∀ c ∈ bl s, c < 256 := by
  intro c hc
  obtain ⟨x, _, rfl⟩ := List.mem_map.1 hc
  exact x.toNat_lt
theorem bl_len (s : ByteArray) : (bl s).length = s.size := by
  have := strB_size (bl s)
  rw [strB_bl] at this
  exact this.symm
/-- .. the pair of a change. -/
def prE (x : En) : Pr := (M.inner (bl x.k) x.S.toNat x.d, bl x.v)
/-- .. of such a kind are the changes that the law goes on with. -/
def En.ok (x : En) : Prop := 0 ≤ x.S ∧ x.S ≤ 72057594037927935 ∧ 0 < x.k.size ∧ x.k.size ≤ 128 ∧ x.v.size ≤ 300
theorem okPE (x : En) (h : x.ok) : okP (prE x) := by
  obtain ⟨h1, h2, h3, h4, h5⟩ := h
  have hk := bl_len x.k
  have he := (M.esc_len (bl x.k)).2
  refine ⟨M.inner_lt _ _ _ (bl_lt _), bl_lt _, ?_, ?_⟩
  · show (M.inner (bl x.k) x.S.toNat x.d).length ≤ _
    rw [M.inner_len]; omega
  · show (bl x.v).length ≤ _
    rw [bl_len]; omega
theorem prE_len (a : List Nat) (x : En) (h : x.ok) : (pairB a (prE x)).length ≤ 1000 := by
  obtain ⟨h1, h2, h3, h4, h5⟩ := h
  have hk := bl_len x.k
  have he := (M.esc_len (bl x.k)).2
  have e1 : (prE x).1.length ≤ 266 := by
    show (M.inner (bl x.k) x.S.toNat x.d).length ≤ _
    rw [M.inner_len]; omega
  have e2 : (prE x).2.length ≤ 300 := by show (bl x.v).length ≤ _; rw [bl_len]; omega
  have a1 := (alk_le a (prE x).1).2
  have s1 := M.sz_le (alk a (prE x).1) (by omega)
  have s2 := M.sz_le ((prE x).1.length - alk a (prE x).1) (by omega)
  have s3 := M.sz_le (prE x).2.length (by omega)
  rw [pairB_len]
  omega
theorem leE (x y : En) (hx : x.ok) (hy : y.ok) (h : cmpE x y < 0) : leL (prE y).1 (prE x).1 = false := by
  have hne : cE (strB (bl x.k)) (x.S.toNat : Int) (strB (bl y.k)) (y.S.toNat : Int) = cmpE x y := by
    unfold cmpE
    rw [strB_bl, strB_bl, Int.toNat_of_nonneg hx.1, Int.toNat_of_nonneg hy.1]
  have hl := inner_less (bl x.k) x.S.toNat x.d (bl y.k) y.S.toNat y.d (bl_lt _) (bl_lt _) (by have := hx.2.1; omega) (by have := hy.2.1; omega) (by rw [hne]; omega)
  rw [hne, decide_eq_true h] at hl
  unfold leL prE
  simp only
  rw [less_asymm _ _ hl, Bool.false_or, beq_eq_false_iff_ne]
  intro e
  rw [e, less_irrefl] at hl
  cases hl
/-- In order, each ahead of the next. -/
def Adj (L : List En) : Prop := ∀ i x y, L[i]? = some x → L[i + 1]? = some y → cmpE x y < 0
theorem mkE : ∀ (L : List En) (i : Nat) (prev b st : List Nat), (∀ x ∈ L, x.ok) → Adj L → (0 < i → ∀ y, L[0]? = some y → leL (prE y).1 prev = false) → b.length + L.length * 1000 ≤ 262144 → (mkGo i prev b st (L.map prE)).2 = 0
  | [], i, prev, b, st, _, _, _, _ => by simp [mkGo]
  | x :: r, i, prev, b, st, hok, hadj, hp, hb => by
    rw [List.map_cons, mkGo]
    have hle : (decide (0 < i) && leL (prE x).1 prev) = false := by
      by_cases h0 : 0 < i
      · rw [hp h0 x rfl, Bool.and_false]
      · rw [decide_eq_false h0, Bool.false_and]
    have hx := hok x (by simp)
    have hl := prE_len (ahd i prev) x hx
    rw [List.length_cons] at hb
    rw [hle, if_neg (by simp), if_neg (by rw [List.length_append]; omega)]
    refine mkE r (i + 1) _ _ _ (fun y hy => hok y (by simp [hy])) (fun j a c ha hc => hadj (j + 1) a c (by simpa using ha) (by simpa using hc)) (fun _ y hy => ?_) (by rw [List.length_append]; omega)
    exact leE x y hx (hok y (by simp [List.mem_of_getElem? hy])) (hadj 0 x y rfl (by simpa using hy))
theorem mkE_ok (L : List En) (hok : ∀ x ∈ L, x.ok) (ha : Adj L) (hl : L.length ≤ 40) : (mk (L.map prE)).2 = 0 :=
  mkE L 0 [] [] [] hok ha (by omega) (by simp; omega)
end Go.Proofs.Ytalcdmpjpphopaa
