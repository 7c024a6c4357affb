/- Walks: Put on nil. -/
import Derived.Test.YtkbdmbefhndlcaaW3
import Derived.Test.YtkbdmbefhndlcaaStr
namespace Go.Proofs.Ytkbdmbefhndlcaa
set_option linter.unusedSimpArgs false
set_option linter.unusedVariables false
open Go.RowKit

theorem put_nil (X : Nat) (h1 : X ≤ 18446744073709551615) (w : World) :
    Calls Try.prog 10 #[.slice none 0 0, .int .u64 (X : Int)] w fun e w' => ∃ A c, e = .returned (.slice A (M.sz X) c) ∧ Rd w' w'.heap.size A (M.sz X) (bys (M.putB X)) ∧ Below w.heap.size w w' := by
  refine (put_any (X : Int) (by omega) (by omega) w w.heap.size (Buf.nil w _) (by omega) (Nat.le_refl _)).mono ?_
  rintro e w' ⟨v', rfl, hl⟩
  rw [Int.toNat_natCast] at hl
  obtain ⟨A, c, rfl, _, hr⟩ := hl.buf.slice
  refine ⟨A, c, ?_, ?_, hl.below (Buf.nil w _) (Nat.le_refl _)⟩
  · rw [Nat.zero_add]
  · rw [Nat.zero_add, List.nil_append] at hr; exact hr

theorem conv_of {w : World} {B : Nat} {A : Option Addr} {n : Nat} {bs : List Nat} (c : Nat) (hr : Rd w B A n (bys bs)) :
    (convert 23 9 (.slice A n c)).run Try.prog w = .ok (.string (strB bs)) w := run_conv c hr 23 9 5 Try.underlying23 Try.underlying5 Try.underlying9

theorem put300 (w : World) :
    Calls Try.prog 10 #[.slice none 0 0, .int .u64 300] w fun e w' => ∃ A c, e = .returned (.slice A 2 c) ∧ (convert 23 9 (.slice A 2 c)).run Try.prog w' = .ok (.string ⟨#[172, 2]⟩) w' ∧ Below w.heap.size w w' := by
  refine (put_nil 300 (by omega) w).mono ?_
  rintro e w' ⟨A, c, rfl, hr, hb⟩
  have e1 : M.sz 300 = 2 := M.sz_of 300 2 (by decide) (by decide) (.inr (by decide))
  have e2 : M.putB 300 = [172, 2] := by unfold M.putB; rw [e1]; decide
  rw [e1, e2] at hr
  refine ⟨A, c, by rw [e1], ?_, hb⟩
  rw [conv_of c hr]
  rfl
end Go.Proofs.Ytkbdmbefhndlcaa
