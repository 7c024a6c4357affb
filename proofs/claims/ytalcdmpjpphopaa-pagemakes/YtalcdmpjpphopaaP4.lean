/- Walks: the reader's stop, number, text. -/
import Derived.Test.YtalcdmpjpphopaaP3
import Derived.Test.YtalcdmpjpphopaaTch
namespace Go.Proofs.Ytalcdmpjpphopaa
set_option linter.unusedSimpArgs false
set_option linter.unusedVariables false
open Go.RowKit

/-- A reader in memory. -/
structure Rdr (w : World) (B gr : Nat) (s : St) : Prop where
  box : ∃ A c, Bx2 w gr (.slice A s.1.length c) (.bool s.2) ∧ Rd w B A s.1.length (bys s.1) ∧ s.1.length ≤ c ∧ c ≤ maxLen
  lt : ∀ x ∈ s.1, x < 256
  lo : B ≤ gr
  few : s.1.length ≤ 1000000
theorem Rdr.gr_lt {w : World} {B gr : Nat} {s : St} (h : Rdr w B gr s) : gr < w.heap.size := by
  obtain ⟨A, c, hb, _⟩ := h.box
  exact World.block_lt_of_cell? _ _ hb.c0
theorem Rdr.below {w w' : World} {B gr : Nat} {s : St} (h : Rdr w B gr s) (hb : Below w.heap.size w w') : Rdr w' B gr s := by
  obtain ⟨A, c, h1, h2, h3⟩ := h.box
  exact ⟨⟨A, c, h1.keep (hb.block gr h.gr_lt), h2.below (hb.mono (by have := h.lo; have := h.gr_lt; omega)), h3⟩, h.lt, h.lo, h.few⟩

set_option maxHeartbeats 1000000 in
theorem stop_any (w : World) (B gr : Nat) (s : St) (h : Rdr w B gr s) :
    Calls Try.prog 46 #[.pointer (some ⟨gr, 0, none⟩)] w fun e w' => e = .returned (.tuple #[]) ∧ Rdr w' B gr bad ∧ Tch w w' [gr] := by
  obtain ⟨A, c, hb, hr, _⟩ := h.box
  have h0 := hb.c0
  have h1 := hb.c1
  have f0 := hb.cold 0
  have f1 := hb.cold 1
  have HE : Hid (Rdr ((w.setCell ⟨gr, 1, none⟩ (.bool true)).setCell ⟨gr, 0, none⟩ (.slice none 0 0)) B gr bad ∧ Tch w ((w.setCell ⟨gr, 1, none⟩ (.bool true)).setCell ⟨gr, 0, none⟩ (.slice none 0 0)) [gr]) := Lib.hid (by
    have b1 := hb.set1 (.bool true)
    refine ⟨⟨⟨none, 0, ⟨World.cell?_setCell_same _ _ _ b1.c0, ?_, fun o => (World.frozen?_setCell _ _ _ _).trans (b1.cold o)⟩, Rd.nil, Nat.le_refl _, Nat.zero_le _⟩, by simp [bad], h.lo, by simp [bad]⟩, ?_⟩
    · exact (set_other _ gr 0 1 _ (by decide)).trans b1.c1
    · have g1 := grown_setCell w ⟨gr, 1, none⟩ (.bool true)
      have g2 := grown_setCell (w.setCell ⟨gr, 1, none⟩ (.bool true)) ⟨gr, 0, none⟩ (.slice none 0 0)
      exact (Tch.of_grown g1 (L := [gr]) (by simp)).trans (Tch.of_grown g2 (L := [gr]) (by simp)) (by simp))
  clear hb hr h
  go_enter Try.func46, Try.ntmps46
  go_wp2
  go_end0
  exact ⟨rfl, HE.out⟩
end Go.Proofs.Ytalcdmpjpphopaa
