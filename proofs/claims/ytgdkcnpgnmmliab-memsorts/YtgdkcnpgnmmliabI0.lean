/- slices.Delete at []int (the library's contract, laid), at a row of the call's own. -/
import Derived.Test.YtgdkcnpgnmmliabI1
import Derived.Shelf.Slices.Delete
import Derived.Sort.OwnSorted
namespace Go.Proofs.Ytgdkcnpgnmmliab
set_option linter.unusedSimpArgs false
set_option linter.unusedVariables false
open Go.Shelf Go.Sort Go.RowKit
def laysDel_ren : Go.Shelf.Ren := ⟨fun | 23 => 30 | n => n, fun | 22 => 28 | 3 => 3 | 4 => 4 | 0 => 0 | n => n, fun | n => n⟩
theorem laysDel : Go.Proofs.Lays2.n23 Try.prog laysDel_ren := {
  mixed := by kernel_rfl
  f23 := Try.func30.trans (congrArg some (by kernel_rfl))
  t0 := Try.underlying0
  a0 := Try.isAgg0
  z0 := Try.sizeOf0
  v0 := Try.zeroValue0
  t3 := Try.underlying3
  a3 := Try.isAgg3
  z3 := Try.sizeOf3
  v3 := Try.zeroValue3
  t4 := Try.underlying4
  a4 := Try.isAgg4
  z4 := Try.sizeOf4
  v4 := Try.zeroValue4
  t22 := Try.underlying28
  a22 := Try.isAgg28
  z22 := Try.sizeOf28
  v22 := Try.zeroValue28
  i3 := by kernel_rfl }

theorem heap_putRow {α : Type} [Inhabited α] (enc : α → Value) {w : World} {g n : Nat} {cur : Array Value} {e : TypeId} {fr : Nat × Nat} (d : Array α) (hb : w.heap[g]? = some (.cells cur e fr)) :
    (putRow enc (Sort.ahead w n) g 0 d).heap[g]? = some (.cells (putCells enc 0 d cur) e fr) := by
  simp [putRow, mapBlock, Sort.ahead, Array.getElem?_modify, hb, onCells]
theorem grown_putRow {α : Type} [Inhabited α] (enc : α → Value) {w : World} {g n : Nat} (d : Array α) : w.grownBy (putRow enc (Sort.ahead w n) g 0 d) (some g) := by
  refine ⟨rfl, rfl, rfl, by simp [putRow, mapBlock, Sort.ahead], fun k hk hne => ?_⟩
  have : g ≠ k := fun e => hne (by rw [e])
  simp [putRow, mapBlock, Sort.ahead, Array.getElem?_modify, this]
theorem take_putRow (cur : Array Value) (ts : List Int) (m : Nat) (h : ts.length ≤ cur.size) (hm : m ≤ ts.length) : (putCells (Value.int .i64) 0 ts.toArray cur).toList.take m = (ts.take m).map (Value.int .i64) := by
  apply List.ext_getElem?
  intro j
  by_cases hj : j < m
  · rw [List.getElem?_take_of_lt hj, Array.getElem?_toList, List.getElem?_map, List.getElem?_take_of_lt hj]
    simp [putCells, show j < ts.length by omega, show j < cur.size by omega]
  · rw [List.getElem?_take_eq_none (by omega), List.getElem?_eq_none (by simp; omega)]
theorem del_any (base g c i : Nat) (L : List Nat) (w : World) (hi : i < L.length) (hown : OwnI w base (.slice (some ⟨g, 0, none⟩) L.length c) L) :
    Calls Try.prog 30 #[.slice (some ⟨g, 0, none⟩) L.length c, .int .i64 (i : Int), .int .i64 ((i + 1 : Nat) : Int)] w fun e w' =>
      e = .returned (.slice (some ⟨g, 0, none⟩) (L.length - 1) c) ∧ OwnI w' base (.slice (some ⟨g, 0, none⟩) (L.length - 1) c) (L.eraseIdx i) ∧ w.grownBy w' (some g) := by
  have hlen : (L.eraseIdx i).length = L.length - 1 := List.length_eraseIdx_of_lt hi
  rcases hown.2 with ⟨e, h0⟩ | ⟨g', cap, cur, e, hb, hg, hnc, hcm, hcs, ht⟩
  · cases e
  · simp only [Value.slice.injEq, Option.some.injEq, Addr.mk.injEq, true_and, and_true] at e
    obtain ⟨e1, e2⟩ := e
    subst e1; subst e2
    rw [Nat.mul_one] at hcs ht
    have hz : (L.map fun (x : Nat) => (x : Int)).length = L.length := by simp
    have hH : Holds (Value.int .i64) w g 0 (L.map fun (x : Nat) => (x : Int)).toArray := by
      intro j hj
      have hj' : j < L.length := by simpa using hj
      refine ⟨?_, by simp [World.frozen?, hg]⟩
      have h1 : (cur.toList.take L.length)[j]? = (cellsI L)[j]? := by rw [ht]
      rw [List.getElem?_take_of_lt hj'] at h1
      simp only [World.cell?, hg, Nat.zero_add]
      simp only [Option.isSome_none, Bool.false_eq_true, if_false]
      rw [← Array.getElem?_toList, h1]
      simp [cellsI, hj']
    have h := Any.slices_Delete_int laysDel g 0 c i (i + 1) (L.map fun (x : Nat) => (x : Int)) w hH (by rw [hz]; exact hnc) (by unfold maxLen at hcm; omega) (by omega) (by rw [hz]; omega)
    rw [hz, show i + 1 - i = 1 by omega] at h
    refine (show Calls Try.prog 30 _ w _ from h).mono ?_
    rintro e w' ⟨rfl, q, rfl⟩
    refine ⟨rfl, ?_, grown_putRow _ _⟩
    unfold OwnI
    rw [hlen]
    obtain ⟨ts, hts⟩ : ∃ ts, ts = (List.take i (L.map fun (x : Nat) => (x : Int)) ++ List.drop (i + 1) (L.map fun (x : Nat) => (x : Int)) ++ List.replicate 1 0) := ⟨_, rfl⟩
    have htl : ts.length = L.length := by rw [hts]; simp; omega
    have htk : ts.take (L.length - 1) = (L.eraseIdx i).map fun (x : Nat) => (x : Int) := by
      rw [hts, List.take_append_of_le_length (by simp; omega), List.take_of_length_le (by simp; omega), List.eraseIdx_eq_take_drop_succ]
      simp
    rw [← hts]
    refine ⟨by rw [cellsI_len, hlen, Nat.mul_one], .inr ⟨g, c, _, rfl, hb, heap_putRow _ _ hg, by omega, hcm, by simp [putCells, hcs], ?_⟩⟩
    rw [Nat.mul_one, take_putRow cur ts (L.length - 1) (by omega) (by omega), htk]
    simp [cellsI]
end Go.Proofs.Ytgdkcnpgnmmliab
