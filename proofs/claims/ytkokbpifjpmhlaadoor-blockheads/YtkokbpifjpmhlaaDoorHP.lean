/- A header read: built out of its parts. -/
import Derived.Test.YtkokbpifjpmhlaaDoorHI
import Derived.Test.YtkokbpifjpmhlaaDoorRowN
import Derived.Laws.Tables
import Derived.Laws.Cover3
namespace Go.Proofs.YtkokbpifjpmhlaaDoor
set_option linter.unusedSimpArgs false
set_option linter.unusedVariables false
open Go.RowKit

theorem fill_part (place : Nat → Option (Nat × Nat)) (i off s : Nat) (hpl : place i = some (off, s)) (pre mid post vs : List Value) (hp : pre.length = off) (hm : mid.length = s) (hv : vs.length = s) (v : Value) (hvc : v.cells = vs.toArray) (R : List (Nat × Value)) :
    Instr.fill place (pre ++ mid ++ post).toArray ((i, v) :: R) = Instr.fill place (pre ++ vs ++ post).toArray R := by
  have e := foldl_set vs off 0 pre mid post (by omega) (by omega)
  have e2 : (v.cells.zipIdx.foldl (fun cs (x : Value × Nat) => cs.setIfInBounds (off + x.2) x.1) (pre ++ mid ++ post).toArray) = (pre ++ vs ++ post).toArray := by
    rw [hvc, ← e, ← Array.foldl_toList, Array.toList_zipIdx]
  rw [← e2]
  show (match place i with | none => none | some (off, size) => if (v.cells.size ≠ size || off + v.cells.size > (pre ++ mid ++ post).toArray.size) = true then none else _) = _
  rw [hpl]
  refine (if_neg ?_).trans rfl
  have : v.cells.size = s := by rw [hvc]; simpa using hv
  simp [this]
  omega

def z32 : List Nat := List.replicate 32 0
/-- A header of zeros. -/
def ZHD : List Value := hdC 0 z32 z32 0 0 0
theorem Tryd.zero26 : (Tryd.prog.info? 26).map (·.zero) = some (some (.agg ZHD.toArray)) := by kernel_rfl

theorem places_hd : ∃ fs, Tryd.prog.underlying 26 = some (.struct fs) ∧ fs.toList.mapM (fun f => (Tryd.prog.info? f.type).map fun i => (f.offset, i.size)) = some [(0, 1), (1, 32), (33, 32), (65, 1), (66, 1), (67, 1)] :=
  ⟨_, Tryd.underlying26, by kernel_rfl⟩
theorem built_fill (parts : List (Nat × Value)) : Tryd.prog.built 26 parts = Instr.fill ([((0 : Nat), (1 : Nat)), (1, 32), (33, 32), (65, 1), (66, 1), (67, 1)].toArray[·]?) ZHD.toArray parts := by
  obtain ⟨fs, hu, hp⟩ := places_hd
  have h0 := Tryd.zero26
  cases hi : Tryd.prog.info? 26 with
  | none => simp [hi] at h0
  | some it =>
    have hz : it.zero = some (.agg ZHD.toArray) := by simpa [hi] using h0
    unfold Program.built
    simp only [hi, hu, hz, hp]
    rfl
theorem built_hd (v : Int) (p r : List Nat) (t b n : Nat) (hp : p.length = 32) (hr : r.length = 32) :
    Tryd.prog.built 26 [(0, .int .i32 v), (1, .agg (bys p).toArray), (2, .agg (bys r).toArray), (3, .int .u32 (t : Int)), (4, .int .u32 (b : Int)), (5, .int .u32 (n : Int))] = some (hdC v p r t b n).toArray := by
  have lp : (bys p).length = 32 := by rw [bys_len]; exact hp
  have lr : (bys r).length = 32 := by rw [bys_len]; exact hr
  have lz : (bys z32).length = 32 := by rw [bys_len]; rfl
  rw [built_fill]
  have s0 := fill_part ([((0 : Nat), (1 : Nat)), (1, 32), (33, 32), (65, 1), (66, 1), (67, 1)].toArray[·]?) 0 0 1 rfl [] [.int .i32 0] (hdT z32 z32 0 0 0) [.int .i32 v] rfl rfl rfl (.int .i32 v) rfl
  have s1 := fill_part ([((0 : Nat), (1 : Nat)), (1, 32), (33, 32), (65, 1), (66, 1), (67, 1)].toArray[·]?) 1 1 32 rfl [.int .i32 v] (bys z32) (bys z32 ++ [.int .u32 ((0 : Nat) : Int), .int .u32 ((0 : Nat) : Int), .int .u32 ((0 : Nat) : Int)]) (bys p) rfl lz lp (.agg (bys p).toArray) rfl
  have s2 := fill_part ([((0 : Nat), (1 : Nat)), (1, 32), (33, 32), (65, 1), (66, 1), (67, 1)].toArray[·]?) 2 33 32 rfl ([.int .i32 v] ++ bys p) (bys z32) [.int .u32 ((0 : Nat) : Int), .int .u32 ((0 : Nat) : Int), .int .u32 ((0 : Nat) : Int)] (bys r) (by simp [lp]) lz lr (.agg (bys r).toArray) rfl
  have s3 := fill_part ([((0 : Nat), (1 : Nat)), (1, 32), (33, 32), (65, 1), (66, 1), (67, 1)].toArray[·]?) 3 65 1 rfl ([.int .i32 v] ++ bys p ++ bys r) [.int .u32 ((0 : Nat) : Int)] [.int .u32 ((0 : Nat) : Int), .int .u32 ((0 : Nat) : Int)] [.int .u32 (t : Int)] (by simp [lp, lr]) rfl rfl (.int .u32 (t : Int)) rfl
  have s4 := fill_part ([((0 : Nat), (1 : Nat)), (1, 32), (33, 32), (65, 1), (66, 1), (67, 1)].toArray[·]?) 4 66 1 rfl ([.int .i32 v] ++ bys p ++ bys r ++ [.int .u32 (t : Int)]) [.int .u32 ((0 : Nat) : Int)] [.int .u32 ((0 : Nat) : Int)] [.int .u32 (b : Int)] (by simp [lp, lr]) rfl rfl (.int .u32 (b : Int)) rfl
  have s5 := fill_part ([((0 : Nat), (1 : Nat)), (1, 32), (33, 32), (65, 1), (66, 1), (67, 1)].toArray[·]?) 5 67 1 rfl ([.int .i32 v] ++ bys p ++ bys r ++ [.int .u32 (t : Int)] ++ [.int .u32 (b : Int)]) [.int .u32 ((0 : Nat) : Int)] [] [.int .u32 (n : Int)] (by simp [lp, lr]) rfl rfl (.int .u32 (n : Int)) rfl
  simp only [List.nil_append, List.append_nil, List.append_assoc, List.cons_append] at s0 s1 s2 s3 s4 s5
  rw [show ZHD = .int .i32 0 :: hdT z32 z32 0 0 0 from rfl, s0]
  unfold hdT
  rw [s1, s2, s3, s4, s5]
  rfl
end Go.Proofs.YtkokbpifjpmhlaaDoor
