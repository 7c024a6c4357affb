/- A slice of digests that came in, opened. -/
import Derived.Test.YtkokbpifjpmhlaaDoorOpenG
import Derived.Test.YtkokbpifjpmhlaaDoorB1
namespace Go.Proofs.YtkokbpifjpmhlaaDoor
set_option linter.unusedSimpArgs false
set_option linter.unusedVariables false
open Go.RowKit Go.ChangeShapes Go.WideShapes Go.Deep

theorem flat_of (css : List (List Value)) (h : ∀ c ∈ css, (∃ x, IsH x ∧ c = bys x) ∧ c.length = 32) : ∃ hs : List (List Nat), hs.length = css.length ∧ (∀ x ∈ hs, IsH x) ∧ css.flatten = flatH hs := by
  induction css with
  | nil => exact ⟨[], rfl, by simp, rfl⟩
  | cons c r ih =>
    obtain ⟨hs, e1, e2, e3⟩ := ih (fun d hd => h d (by simp [hd]))
    obtain ⟨x, hx, rfl⟩ := (h c (by simp)).1
    exact ⟨x :: hs, by simp [e1], by simpa using ⟨hx, e2⟩, by rw [List.flatten_cons, e3]; simp [flatH]⟩
set_option maxRecDepth 100000 in
theorem open_hashes {H : Type} {enc : TypeId × Value → H} {W : World} {b0 : Nat} {r : Reach} {v : Value} {d : DataW H} {ps : List MemPlace}
    (hv : Value.okWide Tryd.prog W r b0 39 v) (hd : DataW.Trod enc Tryd.prog W 0 (fun _ => true) true 39 v d ps) :
    ∃ (A : Option Addr) (n c : Nat) (hs : List (List Nat)), v = .slice A n c ∧ RH W W.heap.size A n hs ∧ n ≤ c ∧ c ≤ maxLen := by
  obtain ⟨A, n, c, rfl⟩ := okWide_slice Tryd.underlying39 hv
  obtain ⟨fuel, hf⟩ := hd
  obtain ⟨A', n', c', css, e, hl, hall, hr, h1, h2⟩ := open_sliceG (s := 32) (T := fun cs => ∃ x, IsH x ∧ cs = bys x) Tryd.underlying39 (by kernel_rfl) (by omega) (fun fuel cs x h _ => by
    obtain ⟨hs, e1, e2, e3⟩ := open_bys_cells Tryd.underlying23 Tryd.underlying5 (by kernel_rfl) (by kernel_rfl) h
    exact ⟨hs, ⟨e2, e3⟩, e1⟩) hf
  simp [Value.cells] at e
  obtain ⟨rfl, rfl, rfl⟩ := e
  obtain ⟨hs, e1, e2, e3⟩ := flat_of css hall
  rw [e3] at hr
  exact ⟨A, n, c, hs, rfl, ⟨by omega, e2, hr⟩, h1, h2⟩
set_option maxRecDepth 100000 in
theorem open_hash {H : Type} {enc : TypeId × Value → H} {W : World} {b0 : Nat} {r : Reach} {v : Value} {d : DataW H} {ps : List MemPlace}
    (hv : Value.okWide Tryd.prog W r b0 23 v) (hd : DataW.Trod enc Tryd.prog W 0 (fun _ => true) true 23 v d ps) : ∃ x, v = .agg (bys x).toArray ∧ IsH x := by
  obtain ⟨hs, e, h1, h2⟩ := open_bys_arr Tryd.underlying23 Tryd.underlying5 (by kernel_rfl) (by kernel_rfl) hv hd
  exact ⟨hs, e, h1, h2⟩
end Go.Proofs.YtkokbpifjpmhlaaDoor
