/- A text as bytes: the new row that '[]byte(s)' lays. -/
import Derived.Test.YtkdkihacpjhgmaaApp
import Derived.Lib.ConvBytes
namespace Go.Proofs.Ytkdkihacpjhgmaa
set_option linter.unusedSimpArgs false
set_option linter.unusedVariables false
open Go.RowKit

theorem bytes_below (w : World) (e : TypeId) (s : ByteArray) : Below w.heap.size w (Lib.bytesWorld w e s) := by
  refine ⟨rfl, rfl, rfl, by rw [Lib.bytesWorld_size]; omega, fun k hk => Lib.bytesWorld_at_old w e s k hk⟩
theorem bytes_rd (w : World) (e : TypeId) (s : List Nat) (hs : ∀ c ∈ s, c < 256) : Rd (Lib.bytesWorld w e (strB s)) (w.heap.size + 1) (some ⟨w.heap.size, 0, none⟩) s.length (bys s) := by
  refine ⟨bys_len s, fun _ => ⟨_, _, rfl, by omega, fun j u hu => ?_⟩⟩
  have hj : j < s.length := by have := (List.getElem?_eq_some_iff.1 hu).1; rwa [bys_len] at this
  rw [Nat.zero_add, Lib.bytesWorld_cell w e (strB s) j (by rw [strB_size]; exact hj), ← hu, bys_get s j hj]
  have h1 := getD_lt hs j
  simp [strB, List.getD, hj] at h1 ⊢
  omega
theorem conv_back {P : Program} (w : World) (src dst e : TypeId) (s : List Nat) (hs : P.underlying src = some .string) (hd : P.underlying dst = some (.slice e)) (he : P.underlying e = some (.int .u8)) :
    (convert src dst (.string (strB s))).run P w = .ok (.slice (some ⟨w.heap.size, 0, none⟩) s.length (grownCap w s.length 0 e)) (Lib.bytesWorld w e (strB s)) := by
  have := Lib.run_convert_string_bytes (P := P) w src dst e (strB s) hs hd he
  rwa [strB_size] at this
end Go.Proofs.Ytkdkihacpjhgmaa
