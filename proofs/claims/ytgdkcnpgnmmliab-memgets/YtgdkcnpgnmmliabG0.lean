/- The newest change of a key up to a number: the best of those that were taken. -/
import Derived.Test.YtgdkcnpgnmmliabN1
namespace Go.Proofs.Ytgdkcnpgnmmliab
set_option linter.unusedSimpArgs false
set_option linter.unusedVariables false
open Go.RowKit

def Fits (nm : ByteArray) (sq : Int) (y : En) : Prop := y.k = nm ∧ y.S ≤ sq
/-- z is the place, in L, of the best that M has; or -1. -/
def Best (M L : List En) (nm : ByteArray) (sq z : Int) : Prop :=
  (z = -1 ∧ ∀ y ∈ M, ¬ Fits nm sq y) ∨ ∃ (j : Nat) (x : En), z = (j : Int) ∧ L[j]? = some x ∧ x ∈ M ∧ Fits nm sq x ∧ ∀ y ∈ M, Fits nm sq y → y.S ≤ x.S
theorem Best.nil (L : List En) (nm : ByteArray) (sq : Int) : Best [] L nm sq (-1) := .inl ⟨rfl, by simp⟩
theorem cmp_key (y : En) (nm : ByteArray) (sq : Int) : cmpE y (kEn nm sq) < 0 ↔ (Op.bytesLess y.k.toList nm.toList = true ∨ (y.k = nm ∧ sq < y.S)) := by
  unfold cmpE kEn
  have h := cE_less y.k nm y.S sq
  have v := cE_vals y.k nm y.S sq
  constructor
  · intro hl
    have hl' : cE y.k y.S nm sq < 0 := hl
    exact h.1 (by omega)
  · intro hr
    have := h.2 hr
    simp only at this ⊢
    omega
theorem cmp_lt (y x : En) : cmpE y x < 0 ↔ (Op.bytesLess y.k.toList x.k.toList = true ∨ (y.k = x.k ∧ x.S < y.S)) := cmp_key y x.k x.S
/-- Get tells the best. -/
theorem get_best {M L : List En} {nm : ByteArray} {sq z : Int} (hs : Srt cmpE M) (hb : Best M L nm sq z) :
    (z = -1 ∧ getE M nm sq = (zEn, false)) ∨ ∃ (j : Nat) (x : En), z = (j : Int) ∧ L[j]? = some x ∧ getE M nm sq = (x, true) := by
  rcases hb with ⟨rfl, hn⟩ | ⟨j, x, rfl, hj, hx, hfx, hmax⟩
  · refine .inl ⟨rfl, ?_⟩
    unfold getE
    rw [if_neg]
    rintro ⟨h1, h2⟩
    unfold atE at h1 h2
    rw [if_neg (by omega), Int.toNat_natCast] at h1 h2
    cases hp : M[pos cmpE M (kEn nm sq)]? with
    | none => rw [hp] at h1; cases h1
    | some y =>
      rw [hp] at h2
      have h2 : y.k = nm := h2
      have hge := pos_ge cmpE (kEn nm sq) M y hp
      refine hn y (List.mem_of_getElem? hp) ⟨h2, ?_⟩
      rw [cmp_key] at hge
      have : ¬ sq < y.S := fun h => hge (.inr ⟨h2, h⟩)
      omega
  · refine .inr ⟨j, x, rfl, hj, ?_⟩
    obtain ⟨i, hi, hxi⟩ := List.mem_iff_getElem.1 hx
    have hxi' : M[i]? = some x := by rw [List.getElem?_eq_getElem hi, hxi]
    have hpi : pos cmpE M (kEn nm sq) ≤ i := by
      rcases Nat.lt_or_ge i (pos cmpE M (kEn nm sq)) with h | h
      · have := pos_lt cmpE (kEn nm sq) M i x h hxi'
        rw [cmp_key] at this
        rcases this with h | h
        · rw [hfx.1, less_irrefl] at h; cases h
        · have := hfx.2; omega
      · exact h
    have hpl : pos cmpE M (kEn nm sq) < M.length := by omega
    have hp : M[pos cmpE M (kEn nm sq)]? = some M[pos cmpE M (kEn nm sq)] := List.getElem?_eq_getElem hpl
    have hge := pos_ge cmpE (kEn nm sq) M _ hp
    have he : M[pos cmpE M (kEn nm sq)] = x := by
      rcases Nat.lt_or_eq_of_le hpi with h | h
      · have hlt := List.pairwise_iff_getElem.1 hs _ _ hpl hi h
        rw [hxi, cmp_lt] at hlt
        rw [cmp_key] at hge
        rcases hlt with h1 | ⟨h1, h2⟩
        · rw [hfx.1] at h1
          exact absurd (.inl h1) hge
        · have hf : Fits nm sq M[pos cmpE M (kEn nm sq)] := ⟨h1.trans hfx.1, by
            have : ¬ sq < M[pos cmpE M (kEn nm sq)].S := fun h => hge (.inr ⟨h1.trans hfx.1, h⟩)
            omega⟩
          have := hmax _ (List.getElem_mem hpl) hf
          omega
      · have : M[pos cmpE M (kEn nm sq)]? = some x := by rw [h]; exact hxi'
        rw [hp] at this
        injection this
    have hat : atE M (pos cmpE M (kEn nm sq) : Nat) = (x, true) := by
      unfold atE
      rw [if_neg (by omega), Int.toNat_natCast, hp, he]
    unfold getE
    rw [hat, if_pos ⟨rfl, hfx.1⟩]
/-- Steps. -/
theorem Best.no {M L : List En} {nm : ByteArray} {sq z : Int} {y : En} (h : Best M L nm sq z) (hr : addR M y ≠ 0 ∨ ¬ Fits nm sq y) : Best (addL M y) L nm sq z := by
  by_cases hr0 : addR M y = 0
  · have hf : ¬ Fits nm sq y := by rcases hr with h1 | h1; exact absurd hr0 h1; exact h1
    rw [(addL_ok M y hr0).1]
    rcases h with ⟨e, hn⟩ | ⟨j, x, e, hj, hx, hfx, hmax⟩
    · refine .inl ⟨e, fun u hu => ?_⟩
      rcases (mem_ins (c := cmpE) M y u).1 hu with rfl | hu
      · exact hf
      · exact hn u hu
    · refine .inr ⟨j, x, e, hj, (mem_ins (c := cmpE) M y x).2 (.inr hx), hfx, fun u hu hfu => ?_⟩
      rcases (mem_ins (c := cmpE) M y u).1 hu with rfl | hu
      · exact absurd hfu hf
      · exact hmax u hu hfu
  · rw [addL_no M y hr0]; exact h
theorem Best.yes {M L : List En} {nm : ByteArray} {sq z : Int} {y : En} {i : Nat} (h : Best M L nm sq z) (hr : addR M y = 0) (hf : Fits nm sq y) (hy : L[i]? = some y) (hz : z < 0 ∨ ∃ (j : Nat) (x : En), z = (j : Int) ∧ L[j]? = some x ∧ x.S < y.S) : Best (addL M y) L nm sq (i : Int) := by
  rw [(addL_ok M y hr).1]
  refine .inr ⟨i, y, rfl, hy, (mem_ins (c := cmpE) M y y).2 (.inl rfl), hf, fun u hu hfu => ?_⟩
  rcases (mem_ins (c := cmpE) M y u).1 hu with rfl | hu
  · omega
  · rcases h with ⟨e, hn⟩ | ⟨j, x, e, hj, hx, hfx, hmax⟩
    · exact absurd hfu (hn u hu)
    · rcases hz with hz | ⟨j', x', e', hj', hlt⟩
      · omega
      · have : j' = j := by omega
        subst this
        rw [hj] at hj'
        injection hj' with e2
        subst e2
        have := hmax u hu hfu
        omega
theorem Best.keep {M L : List En} {nm : ByteArray} {sq z : Int} {y : En} {j : Nat} {x : En} (h : Best M L nm sq z) (hr : addR M y = 0) (e : z = (j : Int)) (hj : L[j]? = some x) (hle : y.S ≤ x.S) : Best (addL M y) L nm sq z := by
  rw [(addL_ok M y hr).1]
  rcases h with ⟨e1, hn⟩ | ⟨j', x', e1, hj', hx, hfx, hmax⟩
  · omega
  · have : j' = j := by omega
    subst this
    rw [hj] at hj'
    injection hj' with e2
    subst e2
    refine .inr ⟨j', x, e1, hj, (mem_ins (c := cmpE) M y x).2 (.inr hx), hfx, fun u hu hfu => ?_⟩
    rcases (mem_ins (c := cmpE) M y u).1 hu with rfl | hu
    · exact hle
    · exact hmax u hu hfu
theorem Best.cases {M L : List En} {nm : ByteArray} {sq z : Int} (h : Best M L nm sq z) : z = -1 ∨ ∃ (j : Nat) (x : En), z = (j : Int) ∧ L[j]? = some x := by
  rcases h with ⟨e, _⟩ | ⟨j, x, e, hj, _⟩
  · exact .inl e
  · exact .inr ⟨j, x, e, hj⟩
end Go.Proofs.Ytgdkcnpgnmmliab
