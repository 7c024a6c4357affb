/- Walks: head. -/
import Derived.Test.YtahbhaphodgomacK4
namespace Go.Proofs.Ytahbhaphodgomac
set_option linter.unusedSimpArgs false
set_option linter.unusedVariables false
open Go.RowKit

theorem inner_a : strB (M.inner [97] 1 true) = ⟨#[97, 0, 1, 255, 255, 255, 255, 255, 255, 255, 253]⟩ := by decide +kernel
theorem cE_a : cE (⟨#[97]⟩ : ByteArray) 9 ⟨#[97]⟩ 7 = -1 := by decide +kernel

set_option maxHeartbeats 1000000 in
theorem head_any (w : World) : Calls Try.prog 9 #[] w fun e w' => e = .returned (.bool true) ∧ Below w.heap.size w w' := by
  have hin := inner_any [97] (by decide) (by decide) 1 (by decide) true ⟨#[]⟩
  rw [inner_a, show strB [97] = ⟨#[97]⟩ from rfl] at hin
  have HIN := Lib.hid hin
  have hcm := fun w => cmp_any (⟨#[97]⟩ : ByteArray) 9 false ⟨#[]⟩ ⟨#[97]⟩ 7 false ⟨#[]⟩ w
  rw [cE_a] at hcm
  have HCM := Lib.hid hcm
  clear hin hcm
  go_enter Try.func9, Try.ntmps9
  go_wp2_with fail
  refine (HIN.out _).mono ?_
  rintro e w1 ⟨rfl, hb1⟩
  have hbel := ((Below.refl w.heap.size w).alloc (Nat.le_refl _) _).trans (hb1.mono (by simp))
  go_wp2_with fail
  refine (HCM.out _).mono ?_
  rintro e w2 ⟨rfl, hb2⟩
  have hbel2 := hbel.trans (hb2.mono (by have := hbel.size; omega))
  go_wp2_with fail
  go_ret
  exact ⟨rfl, hbel2⟩
end Go.Proofs.Ytahbhaphodgomac
