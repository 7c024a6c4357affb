/- A disk in memory, and what a call may turn of it. -/
import Derived.Test.YtahbhaphodgomaaAppC
import Derived.Test.YtahbhaphodgomaaProg
import Derived.Maps.OwnSet
import Derived.Maps.RangeWalk
import Derived.Sort.EncStr
namespace Go.Proofs.Ytahbhaphodgomaa
set_option linter.unusedSimpArgs false
set_option linter.unusedVariables false
open Go.RowKit Go.Maps

/-- Only blocks of L, and new ones, are turned. -/
structure Tch (w w' : World) (L : List Nat) : Prop where
  os : w'.os = w.os
  tape : w'.tape = w.tape
  output : w'.output = w.output
  size : w.heap.size ≤ w'.heap.size
  block : ∀ k, k < w.heap.size → k ∉ L → w'.heap[k]? = w.heap[k]?
theorem Tch.refl (w : World) (L : List Nat) : Tch w w L := ⟨rfl, rfl, rfl, Nat.le_refl _, fun _ _ _ => rfl⟩
theorem Tch.of_grown {w w' : World} {row : Option Nat} {L : List Nat} (h : w.grownBy w' row) (hr : ∀ k, row = some k → k ∈ L) : Tch w w' L :=
  ⟨h.os, h.tape, h.output, h.size, fun k hk hL => h.block k hk (fun e => hL (hr k e.symm))⟩
theorem Tch.trans {w w1 w2 : World} {L L1 : List Nat} (h : Tch w w1 L) (k : Tch w1 w2 L1) (hs : ∀ i ∈ L1, i ∈ L ∨ w.heap.size ≤ i) : Tch w w2 L :=
  ⟨k.os.trans h.os, k.tape.trans h.tape, k.output.trans h.output, Nat.le_trans h.size k.size, fun i hi hL => by
    refine (k.block i (Nat.lt_of_lt_of_le hi h.size) (fun hm => ?_)).trans (h.block i hi hL)
    rcases hs i hm with h1 | h1
    · exact hL h1
    · omega⟩
theorem Tch.more {w w' : World} {L L1 : List Nat} (h : Tch w w' L) (hs : ∀ i ∈ L, i ∈ L1) : Tch w w' L1 :=
  ⟨h.os, h.tape, h.output, h.size, fun i hi hL => h.block i hi (fun hm => hL (hs i hm))⟩
theorem Tch.below {w w' : World} {L : List Nat} {B : Nat} (h : Tch w w' L) (hB : B ≤ w.heap.size) (hL : ∀ i ∈ L, B ≤ i) : Below B w w' :=
  ⟨h.os, h.tape, h.output, h.size, fun k hk => h.block k (by omega) (fun hm => by have := hL k hm; omega)⟩
theorem Tch.of_below {w w' : World} (L : List Nat) (h : Below w.heap.size w w') : Tch w w' L := ⟨h.os, h.tape, h.output, h.size, fun k hk _ => h.block k hk⟩
theorem Tch.drew {w w' : World} {L : List Nat} (h : Tch w w' L) : Tch w w'.drew L := ⟨h.os, h.tape, h.output, h.size, h.block⟩
theorem grown_setCell (w : World) (a : Addr) (v : Value) : w.grownBy (w.setCell a v) (some a.block) := by
  refine ⟨rfl, rfl, rfl, by rw [World.size_setCell]; exact Nat.le_refl _, fun k hk hne => ?_⟩
  have := (Below.refl (a.block) w).setCell (p := a) (Nat.le_refl _) v
  by_cases h : k < a.block
  · exact this.block k h
  · have hne' : k ≠ a.block := fun e => hne (by rw [e])
    simp only [World.setCell]
    rw [Array.getElem?_modify]
    rw [if_neg (fun e => hne' e.symm)]

/-- A block of four cells, of two. -/
structure Bx4 (w : World) (g : Nat) (a b c d : Value) : Prop where
  c0 : w.cell? ⟨g, 0, none⟩ = some a
  c1 : w.cell? ⟨g, 1, none⟩ = some b
  c2 : w.cell? ⟨g, 2, none⟩ = some c
  c3 : w.cell? ⟨g, 3, none⟩ = some d
  cold : ∀ o, w.frozen? ⟨g, o, none⟩ = false
structure Bx2 (w : World) (g : Nat) (a b : Value) : Prop where
  c0 : w.cell? ⟨g, 0, none⟩ = some a
  c1 : w.cell? ⟨g, 1, none⟩ = some b
  cold : ∀ o, w.frozen? ⟨g, o, none⟩ = false
theorem Bx4.keep {w w' : World} {g : Nat} {a b c d : Value} (h : Bx4 w g a b c d) (hk : w'.heap[g]? = w.heap[g]?) : Bx4 w' g a b c d :=
  ⟨(World.cell?_of_block (w := w) (a := ⟨g, 0, none⟩) hk).trans h.c0, (World.cell?_of_block (w := w) (a := ⟨g, 1, none⟩) hk).trans h.c1, (World.cell?_of_block (w := w) (a := ⟨g, 2, none⟩) hk).trans h.c2, (World.cell?_of_block (w := w) (a := ⟨g, 3, none⟩) hk).trans h.c3,
   fun o => (World.frozen?_of_block (w := w) (a := ⟨g, o, none⟩) hk).trans (h.cold o)⟩
theorem Bx2.keep {w w' : World} {g : Nat} {a b : Value} (h : Bx2 w g a b) (hk : w'.heap[g]? = w.heap[g]?) : Bx2 w' g a b :=
  ⟨(World.cell?_of_block (w := w) (a := ⟨g, 0, none⟩) hk).trans h.c0, (World.cell?_of_block (w := w) (a := ⟨g, 1, none⟩) hk).trans h.c1, fun o => (World.frozen?_of_block (w := w) (a := ⟨g, o, none⟩) hk).trans (h.cold o)⟩
theorem set_other (w : World) (g i j : Nat) (v : Value) (hij : i ≠ j) : (w.setCell ⟨g, i, none⟩ v).cell? ⟨g, j, none⟩ = w.cell? ⟨g, j, none⟩ := World.cell?_setCell_other w _ _ v (fun e => hij (by injection e))
theorem Bx4.set1 {w : World} {g : Nat} {a b c d : Value} (h : Bx4 w g a b c d) (v : Value) : Bx4 (w.setCell ⟨g, 1, none⟩ v) g a v c d :=
  ⟨(set_other w g 1 0 v (by decide)).trans h.c0, World.cell?_setCell_same _ _ _ h.c1, (set_other w g 1 2 v (by decide)).trans h.c2, (set_other w g 1 3 v (by decide)).trans h.c3, fun o => (World.frozen?_setCell _ _ _ _).trans (h.cold o)⟩
theorem Bx4.set2 {w : World} {g : Nat} {a b c d : Value} (h : Bx4 w g a b c d) (v : Value) : Bx4 (w.setCell ⟨g, 2, none⟩ v) g a b v d :=
  ⟨(set_other w g 2 0 v (by decide)).trans h.c0, (set_other w g 2 1 v (by decide)).trans h.c1, World.cell?_setCell_same _ _ _ h.c2, (set_other w g 2 3 v (by decide)).trans h.c3, fun o => (World.frozen?_setCell _ _ _ _).trans (h.cold o)⟩
theorem Bx4.set3 {w : World} {g : Nat} {a b c d : Value} (h : Bx4 w g a b c d) (v : Value) : Bx4 (w.setCell ⟨g, 3, none⟩ v) g a b c v :=
  ⟨(set_other w g 3 0 v (by decide)).trans h.c0, (set_other w g 3 1 v (by decide)).trans h.c1, (set_other w g 3 2 v (by decide)).trans h.c2, World.cell?_setCell_same _ _ _ h.c3, fun o => (World.frozen?_setCell _ _ _ _).trans (h.cold o)⟩
theorem Bx2.set0 {w : World} {g : Nat} {a b : Value} (h : Bx2 w g a b) (v : Value) : Bx2 (w.setCell ⟨g, 0, none⟩ v) g v b :=
  ⟨World.cell?_setCell_same _ _ _ h.c0, (set_other w g 0 1 v (by decide)).trans h.c1, fun o => (World.frozen?_setCell _ _ _ _).trans (h.cold o)⟩
theorem Bx2.set1 {w : World} {g : Nat} {a b : Value} (h : Bx2 w g a b) (v : Value) : Bx2 (w.setCell ⟨g, 1, none⟩ v) g a v :=
  ⟨(set_other w g 1 0 v (by decide)).trans h.c0, World.cell?_setCell_same _ _ _ h.c1, fun o => (World.frozen?_setCell _ _ _ _).trans (h.cold o)⟩
theorem Bx4.new (w : World) (a b c d : Value) (t : Nat) : Bx4 (w.alloc (.cells #[a, b, c, d] t)) w.heap.size a b c d := by
  refine ⟨?_, ?_, ?_, ?_, fun o => ?_⟩
  all_goals first
    | (rw [World.cell?_alloc_mark]; rfl)
    | (unfold World.frozen?; rw [heap_alloc_new]; simp)
theorem Bx2.new (w : World) (a b : Value) (t : Nat) : Bx2 (w.alloc (.cells #[a, b] t)) w.heap.size a b := by
  refine ⟨?_, ?_, fun o => ?_⟩
  all_goals first
    | (rw [World.cell?_alloc_mark]; rfl)
    | (unfold World.frozen?; rw [heap_alloc_new]; simp)
theorem Bx4.lt {w : World} {g : Nat} {a b c d : Value} (h : Bx4 w g a b c d) : g < w.heap.size := World.block_lt_of_cell? _ _ h.c0
theorem Bx2.lt {w : World} {g : Nat} {a b : Value} (h : Bx2 w g a b) : g < w.heap.size := World.block_lt_of_cell? _ _ h.c0

/-- A file: its name, where it lies, its slice, its bytes, how many are sure. -/
structure File where
  name : List UInt8
  blk : Nat
  v : Value
  data : List Nat
  sure : Nat
def File.foot (f : File) : List Nat := f.blk :: f.v.ownBlock.toList
def ent (f : File) : Lit × DataW Unit := (.string f.name, .lit (.int .u64 (f.blk : Int)))
/-- What a pointer in the map is read as: the block it leads to. -/
def RP : Value → Option (DataW Unit × List MemPlace)
  | .pointer (some ⟨g, 0, none⟩) => some (.lit (.int .u64 (g : Int)), [])
  | .pointer none => some (.nil, [])
  | _ => none
structure FileAt (w : World) (base : Nat) (f : File) : Prop where
  box : Bx2 w f.blk f.v (.int .i64 (f.sure : Int))
  buf : Buf w base f.v f.data.length (bys f.data)
  cold : Cold w f.v
  bytes : ∀ c ∈ f.data, c < 256
  sure : f.sure ≤ f.data.length
  name : f.name.length ≤ 1000
theorem FileAt.keep {w w' : World} {base : Nat} {f : File} (h : FileAt w base f) (hs : w.heap.size ≤ w'.heap.size) (hk : ∀ k ∈ f.foot, w'.heap[k]? = w.heap[k]?) : FileAt w' base f := by
  have hv : ∀ k, f.v.ownBlock = some k → w'.heap[k]? = w.heap[k]? := fun k e => hk k (by simp [File.foot, e])
  exact ⟨h.box.keep (hk _ (by simp [File.foot])), h.buf.keep hs hv, h.cold.keep hv, h.bytes, h.sure, h.name⟩

def used (fs : List File) : Nat := (fs.map fun f => f.data.length).sum
def feet (gd : Nat) (mv : Option Nat) (fs : List File) : List Nat := gd :: (mv.toList ++ fs.flatMap File.foot)
/-- A disk. -/
structure Dsk (w : World) (base gd : Nat) (mv : Option Nat) (fs : List File) (room fuse : Nat) (down : Bool) : Prop where
  box : Bx4 w gd (.int .i64 (room : Int)) (.map mv) (.int .i64 (fuse : Int)) (.bool down)
  none_ : mv = none → fs = []
  map : ∀ bm, mv = some bm → w.ownsMap Try.prog 9 RP bm fs.length (.map (fs.map ent))
  files : ∀ f ∈ fs, FileAt w base f
  nodup : (feet gd mv fs).Nodup
  low : ∀ k ∈ feet gd mv fs, base ≤ k ∧ k < w.heap.size
  fit : used fs ≤ room
  room_le : (room : Int) ≤ 67108864
  fuse_le : (fuse : Int) ≤ 9223372036854775807

theorem owns_keep {w w' : World} {k : TypeId} {R : Value → Option (DataW Unit × List MemPlace)} {b n : Nat} {D : DataW Unit} (h : w.ownsMap Try.prog k R b n D) (hk : w'.heap[b]? = w.heap[b]?) : w'.ownsMap Try.prog k R b n D := by
  obtain ⟨es, clock, hb, r⟩ := h
  exact ⟨es, clock, by rw [hk]; exact hb, r⟩
theorem owns_tight {w : World} {k : TypeId} {R : Value → Option (DataW Unit × List MemPlace)} {b n : Nat} {es : List (Lit × DataW Unit)} (h : w.ownsMap Try.prog k R b n (.map es)) : w.ownsMap Try.prog k R b es.length (.map es) := by
  obtain ⟨xs, clock, hb, F, hs, hD⟩ := h
  refine ⟨xs, clock, hb, F, ?_, hD⟩
  injection hD with hD
  rw [hD, length_sorted]
  simp
theorem Dsk.keep {w w' : World} {base gd : Nat} {mv : Option Nat} {fs : List File} {room fuse : Nat} {down : Bool} (h : Dsk w base gd mv fs room fuse down) (hs : w.heap.size ≤ w'.heap.size) (hk : ∀ k ∈ feet gd mv fs, w'.heap[k]? = w.heap[k]?) :
    Dsk w' base gd mv fs room fuse down :=
  ⟨h.box.keep (hk gd (by simp [feet])), h.none_, fun bm e => owns_keep (h.map bm e) (hk bm (by subst e; simp [feet])),
   fun f hf => (h.files f hf).keep hs (fun k hm => hk k (by simp only [feet, List.mem_cons, List.mem_append, List.mem_flatMap]; exact Or.inr (Or.inr ⟨f, hf, hm⟩))),
   h.nodup, fun k hm => ⟨(h.low k hm).1, Nat.lt_of_lt_of_le (h.low k hm).2 hs⟩, h.fit, h.room_le, h.fuse_le⟩
theorem Dsk.below {w w' : World} {base gd : Nat} {mv : Option Nat} {fs : List File} {room fuse : Nat} {down : Bool} (h : Dsk w base gd mv fs room fuse down) (hb : Below w.heap.size w w') : Dsk w' base gd mv fs room fuse down :=
  h.keep hb.size (fun k hm => hb.block k (h.low k hm).2)
theorem Dsk.drew {w : World} {base gd : Nat} {mv : Option Nat} {fs : List File} {room fuse : Nat} {down : Bool} (h : Dsk w base gd mv fs room fuse down) : Dsk w.drew base gd mv fs room fuse down := h.keep (Nat.le_refl _) (fun _ _ => rfl)
end Go.Proofs.Ytahbhaphodgomaa
