/- An entry that came in, opened. -/
import Derived.Test.YtahbhaphodgomacK5
import Derived.Lib.SmallJoins
import Derived.OpenShut
import Derived.ShutString
namespace Go.Proofs.Ytahbhaphodgomac
set_option linter.unusedSimpArgs false
set_option linter.unusedVariables false
open Go.Joins Go.ChangeShapes Go.WideShapes Go.RowKit

theorem open_ent {H : Type} {enc : TypeId × Value → H} {W : World} {base b0 : Nat} {sp : Nat → Bool} {held : Bool} {r : Reach} {v : Value} {d : DataW H} {ps : List MemPlace}
    (hv : Value.okWide Try.prog W r b0 24 v) (hd : DataW.Trod enc Try.prog W base sp held 24 v d ps) :
    ∃ (k : List Nat) (S : Nat) (e : Bool) (u : List Nat), v = ent (strB k) S e (strB u) ∧ (∀ c ∈ k, c < 256) ∧ (∀ c ∈ u, c < 256) ∧ k.length ≤ maxLen ∧ u.length ≤ maxLen ∧ S ≤ 18446744073709551615 := by
  obtain ⟨v0, v1, v2, v3, y0, y1, y2, y3, n, rfl, _, _, h0, h1, h2, h3⟩ := open_agg4 Try.underlying24 (by kernel_rfl) (by kernel_rfl) hv hd
  obtain ⟨s0, e0, _, m0⟩ := DataW.trod_string Try.underlying9 h0
  obtain ⟨s1, e1, _, m1⟩ := DataW.trod_int Try.underlying22 h1
  obtain ⟨s2, e2, _⟩ := DataW.trod_bool Try.underlying4 h2
  obtain ⟨s3, e3, _, m3⟩ := DataW.trod_string Try.underlying9 h3
  injection e0 with e0
  injection e1 with e1
  injection e2 with e2
  injection e3 with e3
  subst e0; subst e1; subst e2; subst e3
  obtain ⟨k, rfl, hk⟩ := str_of s0
  obtain ⟨u, rfl, hu⟩ := str_of s3
  rw [strB_size] at m0 m3
  have hb : 0 ≤ s1 ∧ s1 ≤ 18446744073709551615 := by simpa [Lit.wf, IntKind.min, IntKind.max, IntKind.signed, IntKind.bits] using m1
  obtain ⟨S, rfl⟩ : ∃ S : Nat, s1 = (S : Int) := ⟨s1.toNat, by omega⟩
  exact ⟨k, S, s2, u, rfl, hk, hu, m0, m3, by omega⟩
end Go.Proofs.Ytahbhaphodgomac
