/- Plain mathematics: the register's step is additive over exclusive or. -/
import Derived.Test.YtajgmadohhagkaaDoorW1
namespace Go.Proofs.YtajgmadohhagkaaDoor
set_option linter.unusedSimpArgs false
set_option linter.unusedVariables false

theorem tab_xor (x y : Nat) (hx : x < 16) (hy : y < 16) : tab (x ^^^ y) = tab x ^^^ tab y := by
  have h : ∀ a b : Fin 16, tab (a.val ^^^ b.val) = tab a.val ^^^ tab b.val := by decide +kernel
  exact h ⟨x, hx⟩ ⟨y, hy⟩
theorem div16_xor (a b : Nat) : (a ^^^ b) / 16 = a / 16 ^^^ b / 16 := by
  have h := Nat.shiftRight_xor_distrib (a := a) (b := b) (i := 4)
  simpa [Nat.shiftRight_eq_div_pow] using h
theorem mod16_xor (a b : Nat) : (a ^^^ b) % 16 = a % 16 ^^^ b % 16 := by
  have h := Nat.xor_mod_two_pow (a := a) (b := b) (n := 4)
  simpa using h
theorem step4_eq (r : Nat) : step4 r = r / 16 ^^^ tab (r % 16) := by rw [step4]
theorem byteStep_eq (r c : Nat) : byteStep r c = step4 (step4 (r ^^^ c)) := by rw [byteStep]
theorem xor4 (a b c d : Nat) : (a ^^^ b) ^^^ (c ^^^ d) = (a ^^^ c) ^^^ (b ^^^ d) := by
  rw [Nat.xor_assoc, Nat.xor_assoc, ← Nat.xor_assoc b c d, Nat.xor_comm b c, Nat.xor_assoc]
theorem step4_xor (a b : Nat) : step4 (a ^^^ b) = step4 a ^^^ step4 b := by
  rw [step4_eq, step4_eq, step4_eq, div16_xor, mod16_xor, tab_xor _ _ (by omega) (by omega), xor4]
theorem byteStep_xor (a b c d : Nat) : byteStep (a ^^^ b) (c ^^^ d) = byteStep a c ^^^ byteStep b d := by
  rw [byteStep_eq, byteStep_eq, byteStep_eq, xor4, step4_xor, step4_xor]
def zx (l m : List Nat) : List Nat := List.zipWith (fun a b => a ^^^ b) l m
theorem crcR_xor : ∀ (l m : List Nat) (a b : Nat), l.length = m.length → crcR (a ^^^ b) (zx l m) = crcR a l ^^^ crcR b m
  | [], [], a, b, _ => by simp [crcR, zx]
  | [], _ :: _, _, _, h => by simp at h
  | _ :: _, [], _, _, h => by simp at h
  | c :: l, d :: m, a, b, h => by
    have ih := crcR_xor l m (byteStep a c) (byteStep b d) (by simpa using h)
    rw [← byteStep_xor] at ih
    exact ih
theorem nt_xor (a b : Nat) : nt a ^^^ nt b = a ^^^ b := by
  rw [nt_eq, nt_eq, xor4, Nat.xor_self, Nat.zero_xor]
/-- What a turn makes of a check, whatever the bytes. -/
theorem sum_turn (l m : List Nat) (h : l.length = m.length) : nt (crcR (nt 0) l) ^^^ nt (crcR (nt 0) (zx l m)) = crcR 0 m := by
  have e := crcR_xor l m (nt 0) 0 h
  rw [Nat.xor_zero] at e
  rw [e, nt_xor, xor_xor]
end Go.Proofs.YtajgmadohhagkaaDoor
