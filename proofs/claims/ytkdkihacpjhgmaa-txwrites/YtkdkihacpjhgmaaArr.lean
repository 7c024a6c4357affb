/- Arrays as values: laws of the operations alloc, box, build, load, store at an array type, the array kept under one name. -/
import Derived.Test.YtkdkihacpjhgmaaOpw
import Derived.Deep.MidRow
import Derived.WalkKit
import Derived.Laws.ResultCell
import Derived.ChangeKeysEq
namespace Go.Proofs.Ytkdkihacpjhgmaa
set_option linter.unusedSimpArgs false
set_option linter.unusedVariables false
open Go.RowKit

section
variable {P : Program} {o : Oper} {a : Act} {w : World} {K : Act → World → Prop} {Q : Exit → Act → World → Prop}

theorem wp_alloc_arr (t : TypeId) (ho : o.op = .alloc t) (Z : Array Value) (hi : (P.info? t).map (·.zero) = some (some (.agg Z)))
    (h : K (a.put o.dst (.pointer (some ⟨w.heap.size, 0, none⟩))) (w.alloc (.cells Z t))) : o.wp P a w K Q := by
  cases hq : P.info? t with
  | none => simp [hq] at hi
  | some i =>
    have hz : i.zero = some (.agg Z) := by simpa [hq] using hi
    unfold Oper.wp execOp
    simp [ho, Instr.alloc, zeroValue, typeInfo, hq, hz, newVar, newRow, Value.cells]
    exact h

theorem wp_build_arr (t : TypeId) (parts : Array (Nat × Operand)) (ho : o.op = .build t parts) (n : Nat) (e : TypeId) (Z C : Array Value) (hu : P.underlying t = some (.array n e)) (hi : (P.info? t).map (·.zero) = some (some (.agg Z)))
    (he : (P.info? e).map (·.size) = some 1) (hf : Instr.fill (fun i => some (i * 1, 1)) Z (parts.map fun (i, x) => (i, a.eval x)).toList = some C)
    (h : K (a.put o.dst (.agg C)) w) : o.wp P a w K Q := by
  cases hq : P.info? t with
  | none => simp [hq] at hi
  | some i =>
    have hz : i.zero = some (.agg Z) := by simpa [hq] using hi
    cases hq2 : P.info? e with
    | none => simp [hq2] at he
    | some i2 =>
      have hs : i2.size = 1 := by simpa [hq2] using he
      unfold Oper.wp execOp
      have hb : (Instr.build t (parts.map fun (i, x) => (i, a.eval x))).run P w = .ok (.agg C) w := by
        simp [Instr.build, zeroValue, typeInfo, sizeOf, hq, hz, hq2, hs, run_underlying hu, Value.cells]
        simp at hf
        simp [hf]
      simp [ho, hb, Result.andThen]
      exact h

theorem wpList_of_wp {ops : Array Oper} {rest : List Oper} (hgd : o.guard = none) (h : ∀ K : Act → World → Prop, (∀ a w, wpList P ops Q rest a w → K a w) → o.wp P a w K Q) : wpList P ops Q (o :: rest) a w := wpList_plain hgd h
end

theorem results_arr_tmp {P : Program} {fn : Func} {p u : Tmp} {ty : TypeId} (h : fn.results = #[.cell p ty, .tmp u]) (tmps : Array Value) (w : World) (b : Nat) (cs : List Value) (d : TypeDesc)
    (hp : tmps.getD p undef = .pointer (some ⟨b, 0, none⟩)) (hc : w.rangeAt b 0 cs) (hu : P.underlying ty = some d) (hd : d.isRow = true) (hi : (P.info? ty).map (·.size) = some cs.length) :
    (results fn tmps).run P w = .ok (.tuple #[.agg cs.toArray, tmps.getD u undef]) w := by
  rw [results_cell_tmp h, hp]
  simp [asAddr, run_loadVar_mid w b 0 ty cs d hc hu hd hi]

/-- The array's block holds cs. -/
def Blk (w : World) (g : Nat) (t : TypeId) (cs : Array Value) : Prop := w.heap[g]? = some (.cells cs t (0, 0))
theorem Blk.there {w : World} {g : Nat} {t : TypeId} {cs : Array Value} (h : Blk w g t cs) : w.there g 0 cs.size := fun j hj => by
  rw [Nat.zero_add]
  exact ⟨by rw [cell_of_row w g j cs t _ h]; simp [hj], frozen_of_row w g j cs t h⟩
theorem Blk.range {w : World} {g : Nat} {t : TypeId} {cs : Array Value} (h : Blk w g t cs) : w.rangeAt g 0 cs.toList := fun j v hv => by
  rw [Nat.zero_add, cell_of_row w g j cs t _ h]; simpa using hv
theorem Blk.set {w : World} {g : Nat} {t : TypeId} {cs : Array Value} (h : Blk w g t cs) (i : Nat) (v : Value) : Blk (w.setCell ⟨g, i, none⟩ v) g t (cs.setIfInBounds i v) := heap_setCell_same w g i cs t v h
theorem Blk.other {w : World} {g : Nat} {t : TypeId} {cs : Array Value} (h : Blk w g t cs) (a : Addr) (v : Value) (hne : g ≠ a.block) : Blk (w.setCell a v) g t cs := (heap_setCell_other w a g v hne).trans h
theorem Blk.setCells {w : World} {g : Nat} {t : TypeId} {cs : Array Value} (h : Blk w g t cs) (b o : Nat) (vs : List Value) (hne : g ≠ b) : Blk (w.setCells b o vs) g t cs := (heap_setCells b vs o w g hne).trans h
theorem Below.setCells' {B : Nat} {w0 w : World} (h : Below B w0 w) (b o : Nat) (hb : B ≤ b) (vs : List Value) : Below B w0 (w.setCells b o vs) := by
  induction vs generalizing o w with
  | nil => exact h
  | cons v r ih => exact ih (h.setCell (by exact hb) v) (o + 1)


section
variable {P : Program} (w : World)
theorem eqItems_bys (d : Nat) (e : TypeId) (k' : IntKind) (he : P.underlying e = some (.int k')) (xs ys : List Nat) : ∀ is : List Nat, (∀ i ∈ is, i < xs.length ∧ i < ys.length) →
    (Op.eqItems (d + 1) e 1 (bys xs).toArray (bys ys).toArray is).run P w = .ok (is.all fun i => xs.getD i 0 == ys.getD i 0) w
  | [], _ => by simp [Op.eqItems]
  | i :: is, h => by
    have hi := h i (by simp)
    have ih := eqItems_bys d e k' he xs ys is (fun j hj => h j (by simp [hj]))
    have hag : (isAgg e).run P w = .ok false w := by simp [isAgg, run_underlying he]
    have p1 : (part e (bys xs).toArray (i * 1)).run P w = .ok (.int .u8 ((xs.getD i 0 : Nat) : Int)) w := by
      have := bys_get xs i hi.1
      simp only [part, Sem.run_bind, hag, Result.andThen_ok, Bool.false_eq_true, if_false, Nat.mul_one, List.getElem?_toArray, this, Sem.run_pure]
    have p2 : (part e (bys ys).toArray (i * 1)).run P w = .ok (.int .u8 ((ys.getD i 0 : Nat) : Int)) w := by
      have := bys_get ys i hi.2
      simp only [part, Sem.run_bind, hag, Result.andThen_ok, Bool.false_eq_true, if_false, Nat.mul_one, List.getElem?_toArray, this, Sem.run_pure]
    simp only [Op.eqItems, Sem.run_bind, p1, p2, Result.andThen_ok, run_equalIn_int w d e .u8 k' _ _ he, List.all_cons]
    have e1 : (((xs.getD i 0 : Nat) : Int) == ((ys.getD i 0 : Nat) : Int)) = (xs.getD i 0 == ys.getD i 0) := by
      rw [Bool.eq_iff_iff, beq_iff_eq, beq_iff_eq]; omega
    rw [e1]
    cases hc : (xs.getD i 0 == ys.getD i 0)
    · simp
    · simpa using ih
theorem all_range_eq (xs ys : List Nat) (n : Nat) (hx : xs.length = n) (hy : ys.length = n) : ((List.range n).all fun i => xs.getD i 0 == ys.getD i 0) = decide (xs = ys) := by
  rw [Bool.eq_iff_iff]
  simp only [List.all_eq_true, List.mem_range, beq_iff_eq, decide_eq_true_eq]
  constructor
  · intro h
    apply List.ext_getElem (by omega)
    intro i h1 h2
    have := h i (by omega)
    simpa [List.getD, h1, h2] using this
  · rintro rfl i _; rfl
/-- Two arrays of bytes held against each other. -/
theorem run_eql_bys (t e : TypeId) (n : Nat) (k' : IntKind) (i : TypeInfo) (hu : P.underlying t = some (.array n e)) (hi : P.info? e = some i) (hc : P.cellsOf e = 1) (he : P.underlying e = some (.int k')) (xs ys : List Nat) (hx : xs.length = n) (hy : ys.length = n) :
    (Op.equalIn 10000 t (.agg (bys xs).toArray) (.agg (bys ys).toArray)).run P w = .ok (decide (xs = ys)) w := by
  rw [run_equalIn_array w 9999 _ _ hu hi, hc, eqItems_bys w 9998 e k' he xs ys _ (fun j hj => by have := List.mem_range.1 hj; omega), all_range_eq xs ys n hx hy]
end

/-- A load of a whole array under a guard that holds. -/
theorem wpList_load_mid_g {P : Program} {ops : Array Oper} {rest : List Oper} {op : Oper} {a : Act} {w : World} {Q : Exit → Act → World → Prop} (hw : Region.wanted op (yielded ops a.tmps) = true) (ty : TypeId) (x : Operand) (ho : op.op = .load ty x)
    (b o : Nat) (hx : a.eval x = .pointer (some ⟨b, o, none⟩)) (cs : List Value) (d : TypeDesc) (hc : w.rangeAt b o cs)
    (hu : P.underlying ty = some d) (hd : d.isRow = true) (hi : (P.info? ty).map (·.size) = some cs.length)
    (h : wpList P ops Q rest (a.put op.dst (.agg cs.toArray)) w) : wpList P ops Q (op :: rest) a w :=
  wpList_step fun K hK => by rw [if_pos hw]; exact wp_load_mid ty x ho b o hx cs d hc hu hd hi (hK _ _ h)
theorem rangeAt_below {w w' : World} {B b o : Nat} {cs : List Value} (h : w.rangeAt b o cs) (hb : Below B w w') (hlt : b < B) : w'.rangeAt b o cs := fun j v hv => (hb.cell (p := ⟨b, o + j, none⟩) hlt).trans (h j v hv)
/-- A new array's block, stored whole. -/
theorem there_new (w : World) (C : Array Value) (t : TypeId) (n : Nat) (h : C.size = n) : (w.alloc (.cells C t)).there w.heap.size 0 n := by
  subst h
  exact Blk.there (heap_alloc_new w _)

theorem Blk.stored_at {g : Nat} {t : TypeId} : ∀ (vs : List Value) (w : World) (pre mid : List Value), vs.length = mid.length → Blk w g t (pre ++ mid).toArray → Blk (w.setCells g pre.length vs) g t (pre ++ vs).toArray
  | [], w, pre, mid, hl, h => by
    have : mid = [] := List.eq_nil_of_length_eq_zero hl.symm
    subst this; exact h
  | v :: r, w, pre, [], hl, h => by simp at hl
  | v :: r, w, pre, m :: mid, hl, h => by
    show Blk ((w.setCell ⟨g, pre.length, none⟩ v).setCells g (pre.length + 1) r) g t (pre ++ v :: r).toArray
    have h1 := h.set pre.length v
    rw [List.setIfInBounds_toArray, List.set_append, if_neg (by omega), Nat.sub_self, List.set_cons_zero] at h1
    have h2 := Blk.stored_at r (w.setCell ⟨g, pre.length, none⟩ v) (pre ++ [v]) mid (by simpa using hl) (by simpa using h1)
    simpa using h2
/-- A whole array stored over a block. -/
theorem Blk.stored {w : World} {g : Nat} {t : TypeId} {cs : Array Value} (h : Blk w g t cs) (vs : List Value) (hl : vs.length = cs.size) : Blk (w.setCells g 0 vs) g t vs.toArray :=
  Blk.stored_at vs w [] cs.toList (by simpa using hl) (by simpa using h)
theorem Blk.new (w : World) (t : TypeId) (cs : Array Value) : Blk (w.alloc (.cells cs t)) w.heap.size t cs := heap_alloc_new w _
theorem Blk.lt {w : World} {g : Nat} {t : TypeId} {cs : Array Value} (h : Blk w g t cs) : g < w.heap.size := (Array.getElem?_eq_some_iff.1 h).1
theorem Blk.below {w w' : World} {B g : Nat} {t : TypeId} {cs : Array Value} (h : Blk w g t cs) (hb : Below B w w') (hg : g < B) : Blk w' g t cs := (hb.block g hg).trans h
theorem Blk.alloc {w : World} {g : Nat} {t : TypeId} {cs : Array Value} (h : Blk w g t cs) (o : Obj) : Blk (w.alloc o) g t cs := (Below.heap_alloc w o g h.lt).trans h
theorem Blk.drew {w : World} {g : Nat} {t : TypeId} {cs : Array Value} (h : Blk w g t cs) : Blk w.drew g t cs := h
theorem Blk.drewN {w : World} {g : Nat} {t : TypeId} {cs : Array Value} (h : Blk w g t cs) (k : Nat) : Blk (w.drewN k) g t cs := h
theorem Blk.cell {w : World} {g : Nat} {t : TypeId} {l : List Value} (h : Blk w g t l.toArray) (i : Nat) (u : Value) (e : l[i]? = some u) : w.cell? ⟨g, i, none⟩ = some u := by
  rw [cell_of_row w _ _ _ _ _ h]; simpa using e
theorem Blk.cold {w : World} {g : Nat} {t : TypeId} {cs : Array Value} (h : Blk w g t cs) (i : Nat) : w.frozen? ⟨g, i, none⟩ = false := frozen_of_row w _ _ _ _ h
theorem Below.drew' {B : Nat} {w0 w : World} (h : Below B w0 w) : Below B w0 w.drew := ⟨h.os, h.tape, h.output, h.size, h.block⟩
theorem Below.drewN' {B : Nat} {w0 w : World} (h : Below B w0 w) (k : Nat) : Below B w0 (w.drewN k) := ⟨h.os, h.tape, h.output, h.size, h.block⟩

theorem run_index_arr {P : Program} (w : World) (t e : TypeId) (n : Nat) (i : TypeInfo) (kk : IntKind) (hu : P.underlying t = some (.array n e)) (he : P.underlying e = some (.int kk)) (hi : P.info? e = some i) (hs : i.size = 1) (l : List Value) (j : Nat) (hj : j < n) (u : Value) (h : l[j]? = some u) (k : IntKind) (J : Int) (hJ : J = j) :
    (Instr.index t (.agg l.toArray) (.int k J)).run P w = .ok u w := by
  subst hJ
  have ha : (isAgg e).run P w = .ok false w := by simp [isAgg, run_underlying he]
  have h1 : (0 : Int) ≤ (j : Int) ∧ (j : Int) < (n : Int) := ⟨by omega, by omega⟩
  have hz : (sizeOf e).run P w = .ok 1 w := by simp [sizeOf, typeInfo, hi, hs]
  unfold Instr.index
  simp only [Sem.run_bind, asIntOf, Sem.run_pure, Result.andThen_ok, run_underlying hu, if_pos h1, hz, part, ha, Bool.false_eq_true, if_false, Nat.mul_one, Int.toNat_natCast, List.getElem?_toArray, h]
end Go.Proofs.Ytkdkihacpjhgmaa
