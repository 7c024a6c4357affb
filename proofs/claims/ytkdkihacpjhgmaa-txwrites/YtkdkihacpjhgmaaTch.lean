/- What a call may turn; blocks of two and of four cells. -/
import Derived.Test.YtkdkihacpjhgmaaOpw
namespace Go.Proofs.Ytkdkihacpjhgmaa
set_option linter.unusedSimpArgs false
set_option linter.unusedVariables false
open Go.RowKit

/-- Only blocks of L, and new ones, are turned. -/
structure Tch (w w' : World) (L : List Nat) : Prop where
  os : w'.os = w.os
  tape : w'.tape = w.tape
  output : w'.output = w.output
  size : w.heap.size ≤ w'.heap.size
  block : ∀ k, k < w.heap.size → k ∉ L → w'.heap[k]? = w.heap[k]?
theorem Tch.refl (w : World) (L : List Nat) : Tch w w L := ⟨rfl, rfl, rfl, Nat.le_refl _, fun _ _ _ => rfl⟩
theorem Tch.of_grown {w w' : World} {row : Option Nat} {L : List Nat} (h : w.grownBy w' row) (hr : ∀ k, row = some k → k ∈ L) : Tch w w' L :=
  ⟨h.os, h.tape, h.output, h.size, fun k hk hL => h.block k hk (fun e => hL (hr k e.symm))⟩
theorem Tch.trans {w w1 w2 : World} {L L1 : List Nat} (h : Tch w w1 L) (k : Tch w1 w2 L1) (hs : ∀ i ∈ L1, i ∈ L ∨ w.heap.size ≤ i) : Tch w w2 L :=
  ⟨k.os.trans h.os, k.tape.trans h.tape, k.output.trans h.output, Nat.le_trans h.size k.size, fun i hi hL => by
    refine (k.block i (Nat.lt_of_lt_of_le hi h.size) (fun hm => ?_)).trans (h.block i hi hL)
    rcases hs i hm with h1 | h1
    · exact hL h1
    · omega⟩
theorem Tch.more {w w' : World} {L L1 : List Nat} (h : Tch w w' L) (hs : ∀ i ∈ L, i ∈ L1) : Tch w w' L1 :=
  ⟨h.os, h.tape, h.output, h.size, fun i hi hL => h.block i hi (fun hm => hL (hs i hm))⟩
theorem Tch.below {w w' : World} {L : List Nat} {B : Nat} (h : Tch w w' L) (hB : B ≤ w.heap.size) (hL : ∀ i ∈ L, B ≤ i) : Below B w w' :=
  ⟨h.os, h.tape, h.output, h.size, fun k hk => h.block k (by omega) (fun hm => by have := hL k hm; omega)⟩
theorem Tch.of_below {w w' : World} (L : List Nat) (h : Below w.heap.size w w') : Tch w w' L := ⟨h.os, h.tape, h.output, h.size, fun k hk _ => h.block k hk⟩
theorem Tch.drew {w w' : World} {L : List Nat} (h : Tch w w' L) : Tch w w'.drew L := ⟨h.os, h.tape, h.output, h.size, h.block⟩
theorem grown_setCell (w : World) (a : Addr) (v : Value) : w.grownBy (w.setCell a v) (some a.block) := by
  refine ⟨rfl, rfl, rfl, by rw [World.size_setCell]; exact Nat.le_refl _, fun k hk hne => ?_⟩
  have := (Below.refl (a.block) w).setCell (p := a) (Nat.le_refl _) v
  by_cases h : k < a.block
  · exact this.block k h
  · have hne' : k ≠ a.block := fun e => hne (by rw [e])
    simp only [World.setCell]
    rw [Array.getElem?_modify]
    rw [if_neg (fun e => hne' e.symm)]

/-- A block of four cells, of two. -/
structure Bx4 (w : World) (g : Nat) (a b c d : Value) : Prop where
  c0 : w.cell? ⟨g, 0, none⟩ = some a
  c1 : w.cell? ⟨g, 1, none⟩ = some b
  c2 : w.cell? ⟨g, 2, none⟩ = some c
  c3 : w.cell? ⟨g, 3, none⟩ = some d
  cold : ∀ o, w.frozen? ⟨g, o, none⟩ = false
structure Bx2 (w : World) (g : Nat) (a b : Value) : Prop where
  c0 : w.cell? ⟨g, 0, none⟩ = some a
  c1 : w.cell? ⟨g, 1, none⟩ = some b
  cold : ∀ o, w.frozen? ⟨g, o, none⟩ = false
theorem Bx4.keep {w w' : World} {g : Nat} {a b c d : Value} (h : Bx4 w g a b c d) (hk : w'.heap[g]? = w.heap[g]?) : Bx4 w' g a b c d :=
  ⟨(World.cell?_of_block (w := w) (a := ⟨g, 0, none⟩) hk).trans h.c0, (World.cell?_of_block (w := w) (a := ⟨g, 1, none⟩) hk).trans h.c1, (World.cell?_of_block (w := w) (a := ⟨g, 2, none⟩) hk).trans h.c2, (World.cell?_of_block (w := w) (a := ⟨g, 3, none⟩) hk).trans h.c3,
   fun o => (World.frozen?_of_block (w := w) (a := ⟨g, o, none⟩) hk).trans (h.cold o)⟩
theorem Bx2.keep {w w' : World} {g : Nat} {a b : Value} (h : Bx2 w g a b) (hk : w'.heap[g]? = w.heap[g]?) : Bx2 w' g a b :=
  ⟨(World.cell?_of_block (w := w) (a := ⟨g, 0, none⟩) hk).trans h.c0, (World.cell?_of_block (w := w) (a := ⟨g, 1, none⟩) hk).trans h.c1, fun o => (World.frozen?_of_block (w := w) (a := ⟨g, o, none⟩) hk).trans (h.cold o)⟩
theorem set_other (w : World) (g i j : Nat) (v : Value) (hij : i ≠ j) : (w.setCell ⟨g, i, none⟩ v).cell? ⟨g, j, none⟩ = w.cell? ⟨g, j, none⟩ := World.cell?_setCell_other w _ _ v (fun e => hij (by injection e))
theorem Bx4.set1 {w : World} {g : Nat} {a b c d : Value} (h : Bx4 w g a b c d) (v : Value) : Bx4 (w.setCell ⟨g, 1, none⟩ v) g a v c d :=
  ⟨(set_other w g 1 0 v (by decide)).trans h.c0, World.cell?_setCell_same _ _ _ h.c1, (set_other w g 1 2 v (by decide)).trans h.c2, (set_other w g 1 3 v (by decide)).trans h.c3, fun o => (World.frozen?_setCell _ _ _ _).trans (h.cold o)⟩
theorem Bx4.set2 {w : World} {g : Nat} {a b c d : Value} (h : Bx4 w g a b c d) (v : Value) : Bx4 (w.setCell ⟨g, 2, none⟩ v) g a b v d :=
  ⟨(set_other w g 2 0 v (by decide)).trans h.c0, (set_other w g 2 1 v (by decide)).trans h.c1, World.cell?_setCell_same _ _ _ h.c2, (set_other w g 2 3 v (by decide)).trans h.c3, fun o => (World.frozen?_setCell _ _ _ _).trans (h.cold o)⟩
theorem Bx4.set3 {w : World} {g : Nat} {a b c d : Value} (h : Bx4 w g a b c d) (v : Value) : Bx4 (w.setCell ⟨g, 3, none⟩ v) g a b c v :=
  ⟨(set_other w g 3 0 v (by decide)).trans h.c0, (set_other w g 3 1 v (by decide)).trans h.c1, (set_other w g 3 2 v (by decide)).trans h.c2, World.cell?_setCell_same _ _ _ h.c3, fun o => (World.frozen?_setCell _ _ _ _).trans (h.cold o)⟩
theorem Bx2.set0 {w : World} {g : Nat} {a b : Value} (h : Bx2 w g a b) (v : Value) : Bx2 (w.setCell ⟨g, 0, none⟩ v) g v b :=
  ⟨World.cell?_setCell_same _ _ _ h.c0, (set_other w g 0 1 v (by decide)).trans h.c1, fun o => (World.frozen?_setCell _ _ _ _).trans (h.cold o)⟩
theorem Bx2.set1 {w : World} {g : Nat} {a b : Value} (h : Bx2 w g a b) (v : Value) : Bx2 (w.setCell ⟨g, 1, none⟩ v) g a v :=
  ⟨(set_other w g 1 0 v (by decide)).trans h.c0, World.cell?_setCell_same _ _ _ h.c1, fun o => (World.frozen?_setCell _ _ _ _).trans (h.cold o)⟩
theorem Bx4.new (w : World) (a b c d : Value) (t : Nat) : Bx4 (w.alloc (.cells #[a, b, c, d] t)) w.heap.size a b c d := by
  refine ⟨?_, ?_, ?_, ?_, fun o => ?_⟩
  all_goals first
    | (rw [World.cell?_alloc_mark]; rfl)
    | (unfold World.frozen?; rw [heap_alloc_new]; simp)
theorem Bx2.new (w : World) (a b : Value) (t : Nat) : Bx2 (w.alloc (.cells #[a, b] t)) w.heap.size a b := by
  refine ⟨?_, ?_, fun o => ?_⟩
  all_goals first
    | (rw [World.cell?_alloc_mark]; rfl)
    | (unfold World.frozen?; rw [heap_alloc_new]; simp)
theorem Bx4.lt {w : World} {g : Nat} {a b c d : Value} (h : Bx4 w g a b c d) : g < w.heap.size := World.block_lt_of_cell? _ _ h.c0
theorem Bx2.lt {w : World} {g : Nat} {a b : Value} (h : Bx2 w g a b) : g < w.heap.size := World.block_lt_of_cell? _ _ h.c0
end Go.Proofs.Ytkdkihacpjhgmaa
