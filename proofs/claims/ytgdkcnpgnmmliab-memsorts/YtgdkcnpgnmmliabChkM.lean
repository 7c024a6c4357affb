/- The order of texts, and of entries. -/
import Derived.Test.YtgdkcnpgnmmliabK1
namespace Go.Proofs.Ytgdkcnpgnmmliab
set_option linter.unusedSimpArgs false
set_option linter.unusedVariables false
open Go.RowKit

theorem less_irrefl : ∀ a : List UInt8, Op.bytesLess a a = false
  | [] => rfl
  | c :: a => by simp [Op.bytesLess, less_irrefl a]
theorem less_asymm : ∀ a b : List UInt8, Op.bytesLess a b = true → Op.bytesLess b a = false
  | [], [], h => by simp [Op.bytesLess] at h
  | [], _ :: _, _ => rfl
  | _ :: _, [], h => by simp [Op.bytesLess] at h
  | c :: a, d :: b, h => by
    simp only [Op.bytesLess, Bool.or_eq_true, Bool.and_eq_true, decide_eq_true_eq, beq_iff_eq, Bool.or_eq_false_iff, Bool.and_eq_false_imp, decide_eq_false_iff_not] at *
    rcases h with h | ⟨rfl, h⟩
    · refine ⟨fun h' => absurd (UInt8.lt_trans h h') (UInt8.lt_irrefl _), fun e => ?_⟩
      subst e
      exact absurd h (UInt8.lt_irrefl _)
    · exact ⟨UInt8.lt_irrefl _, fun _ => less_asymm a b h⟩
theorem less_total : ∀ a b : List UInt8, Op.bytesLess a b = true ∨ a = b ∨ Op.bytesLess b a = true
  | [], [] => .inr (.inl rfl)
  | [], _ :: _ => .inl rfl
  | _ :: _, [] => .inr (.inr rfl)
  | c :: a, d :: b => by
    simp only [Op.bytesLess, Bool.or_eq_true, Bool.and_eq_true, decide_eq_true_eq, beq_iff_eq, List.cons.injEq]
    rcases Nat.lt_trichotomy c.toNat d.toNat with h | h | h
    · exact .inl (.inl (UInt8.lt_iff_toNat_lt.2 h))
    · have e : c = d := UInt8.toNat_inj.1 h
      subst e
      rcases less_total a b with h | h | h
      · exact .inl (.inr ⟨rfl, h⟩)
      · exact .inr (.inl ⟨rfl, h⟩)
      · exact .inr (.inr (.inr ⟨rfl, h⟩))
    · exact .inr (.inr (.inl (UInt8.lt_iff_toNat_lt.2 h)))
theorem less_trans : ∀ a b c : List UInt8, Op.bytesLess a b = true → Op.bytesLess b c = true → Op.bytesLess a c = true
  | [], _, [], _, h => by simp [Op.bytesLess] at h
  | [], _, _ :: _, _, _ => rfl
  | _ :: _, [], _, h, _ => by simp [Op.bytesLess] at h
  | _ :: _, _ :: _, [], _, h => by simp [Op.bytesLess] at h
  | x :: a, y :: b, z :: c, h, k => by
    simp only [Op.bytesLess, Bool.or_eq_true, Bool.and_eq_true, decide_eq_true_eq, beq_iff_eq] at *
    rcases h with h | ⟨rfl, h⟩ <;> rcases k with k | ⟨rfl, k⟩
    · exact .inl (UInt8.lt_trans h k)
    · exact .inl h
    · exact .inl k
    · exact .inr ⟨rfl, less_trans a b c h k⟩

theorem toList_inj {a b : ByteArray} (h : a.toList = b.toList) : a = b := by
  rw [ByteArray.toList_eq, ByteArray.toList_eq] at h
  have : a.data = b.data := Array.toList_inj.1 h
  exact ByteArray.ext this

/-- How two entries may stand. -/
theorem stand (a b : ByteArray) (S T : Int) :
    (Op.bytesLess a.toList b.toList = true ∧ (a.toList == b.toList) = false ∧ cE a S b T = -1 ∧ cE b T a S = 1) ∨
    (Op.bytesLess a.toList b.toList = false ∧ (a.toList == b.toList) = false ∧ cE a S b T = 1 ∧ cE b T a S = -1) ∨
    (a = b ∧ T < S ∧ cE a S b T = -1 ∧ cE b T a S = 1) ∨ (a = b ∧ S < T ∧ cE a S b T = 1 ∧ cE b T a S = -1) ∨ (a = b ∧ S = T ∧ cE a S b T = 0 ∧ cE b T a S = 0) := by
  rcases less_total a.toList b.toList with h | h | h
  · have h2 := less_asymm _ _ h
    have hne : (a.toList == b.toList) = false := by
      rw [beq_eq_false_iff_ne]; intro e; rw [e, less_irrefl] at h; cases h
    have hne' : (b.toList == a.toList) = false := by rw [beq_eq_false_iff_ne] at *; exact fun e => hne e.symm
    exact .inl ⟨h, hne, by simp [cE, cS, h], by simp [cE, cS, h2, hne']⟩
  · have e := toList_inj h
    subst e
    have hi := less_irrefl a.toList
    rcases Int.lt_trichotomy T S with k | k | k
    · exact .inr (.inr (.inl ⟨rfl, k, by simp [cE, cS, cU, hi, k], by
        have : ¬ S < T := by omega
        simp [cE, cS, cU, hi, k, this]⟩))
    · subst k
      exact .inr (.inr (.inr (.inr ⟨rfl, rfl, by simp [cE, cS, cU, hi], by simp [cE, cS, cU, hi]⟩)))
    · exact .inr (.inr (.inr (.inl ⟨rfl, k, by
        have : ¬ T < S := by omega
        simp [cE, cS, cU, hi, k, this], by simp [cE, cS, cU, hi, k]⟩)))
  · have h2 := less_asymm _ _ h
    have hne' : (b.toList == a.toList) = false := by
      rw [beq_eq_false_iff_ne]; intro e; rw [e, less_irrefl] at h; cases h
    have hne : (a.toList == b.toList) = false := by rw [beq_eq_false_iff_ne] at *; exact fun e => hne' e.symm
    exact .inr (.inl ⟨h2, hne, by simp [cE, cS, h2, hne], by simp [cE, cS, h]⟩)

theorem cE_vals (a b : ByteArray) (S T : Int) : cE a S b T = -1 ∨ cE a S b T = 0 ∨ cE a S b T = 1 := by
  rcases stand a b S T with h | h | h | h | h
  · exact .inl h.2.2.1
  · exact .inr (.inr h.2.2.1)
  · exact .inl h.2.2.1
  · exact .inr (.inr h.2.2.1)
  · exact .inr (.inl h.2.2.1)
/-- .. less: by the key, or of one key the greater number. -/
theorem cE_less (a b : ByteArray) (S T : Int) : cE a S b T = -1 ↔ (Op.bytesLess a.toList b.toList = true ∨ (a = b ∧ T < S)) := by
  constructor
  · intro h
    rcases stand a b S T with k | k | k | k | k
    · exact .inl k.1
    · rw [k.2.2.1] at h; cases h
    · exact .inr ⟨k.1, k.2.1⟩
    · rw [k.2.2.1] at h; cases h
    · rw [k.2.2.1] at h; cases h
  · rintro (h | ⟨rfl, h⟩)
    · simp [cE, cS, h]
    · simp [cE, cS, cU, less_irrefl, h]
theorem cE_trans (a b c : ByteArray) (S T U : Int) (h : cE a S b T = -1) (k : cE b T c U = -1) : cE a S c U = -1 := by
  rw [cE_less] at *
  rcases h with h | ⟨rfl, h⟩ <;> rcases k with k | ⟨rfl, k⟩
  · exact .inl (less_trans _ _ _ h k)
  · exact .inl h
  · exact .inl k
  · exact .inr ⟨rfl, by omega⟩
end Go.Proofs.Ytgdkcnpgnmmliab
