/- What is made is in order; the law's own count. -/
import Derived.Test.YtalcdmpjpphopaaPF
import Derived.Test.YtalcdmpjpphopaaPD
namespace Go.Proofs.Ytalcdmpjpphopaa
set_option linter.unusedSimpArgs false
set_option linter.unusedVariables false
open Go.RowKit

theorem less_total : ∀ a b : List UInt8, Op.bytesLess a b = true ∨ a = b ∨ Op.bytesLess b a = true
  | [], [] => .inr (.inl rfl)
  | [], _ :: _ => .inl rfl
  | _ :: _, [] => .inr (.inr rfl)
  | c :: a, d :: b => by
    simp only [Op.bytesLess, Bool.or_eq_true, Bool.and_eq_true, decide_eq_true_eq, beq_iff_eq, List.cons.injEq]
    rcases Nat.lt_trichotomy c.toNat d.toNat with h | h | h
    · exact .inl (.inl (UInt8.lt_iff_toNat_lt.2 h))
    · have e : c = d := UInt8.toNat_inj.1 h
      subst e
      rcases less_total a b with h | h | h
      · exact .inl (.inr ⟨rfl, h⟩)
      · exact .inr (.inl ⟨rfl, h⟩)
      · exact .inr (.inr (.inr ⟨rfl, h⟩))
    · exact .inr (.inr (.inl (UInt8.lt_iff_toNat_lt.2 h)))
theorem less_trans : ∀ a b c : List UInt8, Op.bytesLess a b = true → Op.bytesLess b c = true → Op.bytesLess a c = true
  | [], _, [], _, h => by simp [Op.bytesLess] at h
  | [], _, _ :: _, _, _ => rfl
  | _ :: _, [], _, h, _ => by simp [Op.bytesLess] at h
  | _ :: _, _ :: _, [], _, h => by simp [Op.bytesLess] at h
  | x :: a, y :: b, z :: c, h, k => by
    simp only [Op.bytesLess, Bool.or_eq_true, Bool.and_eq_true, decide_eq_true_eq, beq_iff_eq] at *
    rcases h with h | ⟨rfl, h⟩ <;> rcases k with k | ⟨rfl, k⟩
    · exact .inl (UInt8.lt_trans h k)
    · exact .inl h
    · exact .inl k
    · exact .inr ⟨rfl, less_trans a b c h k⟩
theorem mkGo_ordr : ∀ (L : List Pr) (i : Nat) (prev b st : List Nat), (mkGo i prev b st L).2 = 0 →
    (0 < i → ∀ q ∈ L, Op.bytesLess (strB prev).toList (strB q.1).toList = true) ∧ L.Pairwise (fun p q => Op.bytesLess (strB p.1).toList (strB q.1).toList = true)
  | [], i, prev, b, st, _ => ⟨fun _ q hq => absurd hq (by simp), List.Pairwise.nil⟩
  | p :: r, i, prev, b, st, h => by
    rw [mkGo] at h
    split at h
    · simp at h
    · next h1 =>
      split at h
      · simp at h
      · obtain ⟨k1, k2⟩ := mkGo_ordr r _ _ _ _ h
        have k1 := k1 (by omega)
        refine ⟨fun hi q hq => ?_, List.Pairwise.cons k1 k2⟩
        rw [decide_eq_true hi, Bool.true_and] at h1
        unfold leL at h1
        rw [Bool.or_eq_true, not_or] at h1
        have hp : Op.bytesLess (strB prev).toList (strB p.1).toList = true := by
          rcases less_total (strB prev).toList (strB p.1).toList with h | h | h
          · exact h
          · exact absurd (by rw [h]; simp) h1.2
          · exact absurd h h1.1
        rcases List.mem_cons.1 hq with rfl | hq
        · exact hp
        · exact less_trans _ _ _ hp (k1 q hq)
theorem mono_mk (L : List Pr) (nm : List Nat) (h : (mk L).2 = 0) : Mono L nm := by
  intro i j p q hij hp hq ha
  rcases Nat.lt_or_eq_of_le hij with h1 | h1
  · have hpw := (mkGo_ordr L 0 [] [] [] h).2
    obtain ⟨hi, rfl⟩ := List.getElem?_eq_some_iff.1 hp
    obtain ⟨hj, rfl⟩ := List.getElem?_eq_some_iff.1 hq
    exact less_trans _ _ _ (List.pairwise_iff_getElem.1 hpw i j hi hj h1) ha
  · subst h1
    rw [hp] at hq; cases hq; exact ha
end Go.Proofs.Ytalcdmpjpphopaa
