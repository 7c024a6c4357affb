/- An array of bytes that came in, opened. -/
import Derived.Test.YtkdkihacpjhgmaaArr
import Derived.OpenShut
import Derived.WideShapes
namespace Go.Proofs.Ytkdkihacpjhgmaa
set_option linter.unusedSimpArgs false
set_option linter.unusedVariables false
open Go.RowKit

theorem bys_of (cs : List Value) (h : ∀ i, i < cs.length → ∃ z : Int, cs[i]? = some (.int .u8 z) ∧ 0 ≤ z ∧ z < 256) : ∃ hs : List Nat, cs = bys hs ∧ ∀ c ∈ hs, c < 256 := by
  induction cs with
  | nil => exact ⟨[], rfl, by simp⟩
  | cons v r ih =>
    obtain ⟨z, hz, h0, h1⟩ := h 0 (by simp)
    obtain ⟨hs, rfl, hb⟩ := ih (fun i hi => by simpa using h (i + 1) (by simpa using hi))
    simp at hz
    subst hz
    refine ⟨z.toNat :: hs, ?_, ?_⟩
    · simp [bys]; omega
    · intro c hc
      simp at hc
      rcases hc with rfl | hc
      · omega
      · exact hb c hc

theorem open_bys_arr {H : Type} {enc : TypeId × Value → H} {P : Program} {W : World} {base b0 : Nat} {sp : Nat → Bool} {held : Bool} {r : Reach} {t e : TypeId} {n : Nat} {v : Value} {d : DataW H} {ps : List MemPlace}
    (hu : P.underlying t = some (.array n e)) (he : P.underlying e = some (.int .u8)) (hc : P.cellsOf e = 1) (hct : P.cellsOf t = n)
    (hv : Value.okWide P W r b0 t v) (hd : DataW.Trod enc P W base sp held t v d ps) :
    ∃ hs : List Nat, v = .agg (bys hs).toArray ∧ hs.length = n ∧ ∀ c ∈ hs, c < 256 := by
  simp only [Value.okWide, hu] at hv
  obtain ⟨cs, rfl, h2, _⟩ := hv
  rw [hct] at h2
  obtain ⟨fuel, hf⟩ := hd
  obtain ⟨xs, m, rfl, hx, hl, hxl, hat⟩ := DataW.trod_array hu hf
  have hcs : (Value.agg cs).cells.toList = cs.toList := rfl
  obtain ⟨hs, e1, hb⟩ := bys_of cs.toList (fun i hi => by
    have hi' : i < n := by simpa [h2] using hi
    have h1 := hat i hi'
    rw [hc, Nat.mul_one] at h1
    have hxi : i < xs.length := by omega
    rw [List.getElem?_eq_getElem hxi] at h1
    obtain ⟨a, ea, _, wa⟩ := DataW.trod_int he h1
    rw [hcs] at ea
    have hget : cs.toList[i]? = some (.int .u8 a) := by
      have : (cs.toList.drop i).head? = some (.int .u8 a) := by
        cases hdr : cs.toList.drop i with
        | nil => rw [hdr] at ea; simp at ea
        | cons q rr => rw [hdr] at ea; simp at ea; simp [ea]
      simpa [List.head?_drop] using this
    refine ⟨a, hget, ?_⟩
    simp [Lit.wf, IntKind.min, IntKind.max, IntKind.signed, IntKind.bits] at wa
    omega)
  refine ⟨hs, ?_, ?_, hb⟩
  · rw [← e1]
  · have := congrArg List.length e1
    rw [bys_len] at this
    simp [h2] at this
    omega
end Go.Proofs.Ytkdkihacpjhgmaa
