/- Walks: what is laid on nil; the document's examples (head). -/
import Derived.Test.YtkbdmbefhndlcaaW6
namespace Go.Proofs.Ytkbdmbefhndlcaa
set_option linter.unusedSimpArgs false
set_option linter.unusedVariables false
open Go.RowKit

theorem Laid.on_nil {w w' : World} {v' : Value} {k : Nat} {l : List Nat} (h : Laid w w.heap.size (.slice none 0 0) w' v' (0 + k) ([] ++ bys l)) :
    ∃ A c, v' = .slice A k c ∧ k ≤ c ∧ Rd w' w'.heap.size A k (bys l) ∧ Below w.heap.size w w' := by
  obtain ⟨A, c, rfl, hc, hr⟩ := h.buf.slice
  rw [Nat.zero_add, List.nil_append] at hr
  rw [Nat.zero_add] at hc
  exact ⟨A, c, by rw [Nat.zero_add], hc, hr, h.below (Buf.nil w _) (Nat.le_refl _)⟩

theorem compact_nil (X : Nat) (h1 : (X : Int) ≤ 18446744073709551615) (w : World) :
    Calls Try.prog 13 #[.slice none 0 0, .int .u64 (X : Int)] w fun e w' => ∃ A c, e = .returned (.slice A (1 + M.cs X) c) ∧ 1 + M.cs X ≤ c ∧ Rd w' w'.heap.size A (1 + M.cs X) (bys (M.compB X)) ∧ Below w.heap.size w w' := by
  refine (compact_any (X : Int) (by omega) h1 w w.heap.size (Buf.nil w _) (by omega) (Nat.le_refl _)).mono ?_
  rintro e w' ⟨v', rfl, hl⟩
  rw [Int.toNat_natCast] at hl
  obtain ⟨A, c, rfl, hc, hr, hb⟩ := hl.on_nil
  exact ⟨A, c, rfl, hc, hr, hb⟩

theorem putLittle_nil (X : Nat) (h1 : (X : Int) ≤ 18446744073709551615) (size : Int) (w : World) :
    Calls Try.prog 18 #[.slice none 0 0, .int .u64 (X : Int), .int .i64 size] w fun e w' => ∃ A c, e = .returned (.slice A (kk size) c) ∧ kk size ≤ c ∧ Rd w' w'.heap.size A (kk size) (bys (M.leB X (kk size))) ∧ Below w.heap.size w w' := by
  refine (putLittle_any (X : Int) (by omega) h1 size w w.heap.size (Buf.nil w _) (by omega) (Nat.le_refl _)).mono ?_
  rintro e w' ⟨v', rfl, hl⟩
  rw [Int.toNat_natCast] at hl
  obtain ⟨A, c, rfl, hc, hr, hb⟩ := hl.on_nil
  exact ⟨A, c, rfl, hc, hr, hb⟩

theorem putBig_nil (X : Nat) (h1 : (X : Int) ≤ 18446744073709551615) (size : Int) (w : World) :
    Calls Try.prog 19 #[.slice none 0 0, .int .u64 (X : Int), .int .i64 size] w fun e w' => ∃ A c, e = .returned (.slice A (kk size) c) ∧ kk size ≤ c ∧ Rd w' w'.heap.size A (kk size) (bys (M.beB X (kk size))) ∧ Below w.heap.size w w' := by
  refine (putBig_any (X : Int) (by omega) h1 size w w.heap.size (Buf.nil w _) (by omega) (Nat.le_refl _)).mono ?_
  rintro e w' ⟨v', rfl, hl⟩
  rw [Int.toNat_natCast] at hl
  obtain ⟨A, c, rfl, hc, hr, hb⟩ := hl.on_nil
  exact ⟨A, c, rfl, hc, hr, hb⟩

theorem compact300 (w : World) :
    Calls Try.prog 13 #[.slice none 0 0, .int .u64 300] w fun e w' => ∃ A c, e = .returned (.slice A 3 c) ∧ (convert 23 9 (.slice A 3 c)).run Try.prog w' = .ok (.string ⟨#[253, 44, 1]⟩) w' ∧ Below w.heap.size w w' := by
  refine (compact_nil 300 (by omega) w).mono ?_
  rintro e w' ⟨A, c, rfl, _, hr, hb⟩
  have e1 : M.cs 300 = 2 := by decide
  have e2 : M.compB 300 = [253, 44, 1] := by decide
  rw [e1, e2] at hr
  refine ⟨A, c, by rw [e1], ?_, hb⟩
  rw [conv_of c hr]
  rfl

theorem big300 (w : World) :
    Calls Try.prog 19 #[.slice none 0 0, .int .u64 300, .int .i64 3] w fun e w' => ∃ A c, e = .returned (.slice A 3 c) ∧ (convert 23 9 (.slice A 3 c)).run Try.prog w' = .ok (.string ⟨#[0, 1, 44]⟩) w' ∧ Below w.heap.size w w' := by
  refine (putBig_nil 300 (by omega) 3 w).mono ?_
  rintro e w' ⟨A, c, rfl, _, hr, hb⟩
  have e1 : kk 3 = 3 := by decide
  have e2 : M.beB 300 3 = [0, 1, 44] := by decide
  rw [e1, e2] at hr
  refine ⟨A, c, by rw [e1], ?_, hb⟩
  rw [conv_of c hr]
  rfl

set_option maxHeartbeats 400000 in
set_option maxRecDepth 100000 in
theorem head_any (w : World) : Calls Try.prog 16 #[] w fun e w' => e = .returned (.bool true) ∧ Below w.heap.size w w' := by
  go_enter Try.func16, Try.ntmps16
  go_wp2_with fail
  refine (put300 _).mono ?_
  rintro e w1 ⟨A1, c1, rfl, hq1, hb1⟩
  go_wp2_with fail
  refine (compact300 _).mono ?_
  rintro e w2 ⟨A2, c2, rfl, hq2, hb2⟩
  go_wp2_with fail
  refine (big300 _).mono ?_
  rintro e w3 ⟨A3, c3, rfl, hq3, hb3⟩
  go_wp2
  go_ret
  exact ⟨rfl, (hb1.trans (hb2.mono hb1.size)).trans (hb3.mono (Nat.le_trans hb1.size hb2.size))⟩
end Go.Proofs.Ytkbdmbefhndlcaa
