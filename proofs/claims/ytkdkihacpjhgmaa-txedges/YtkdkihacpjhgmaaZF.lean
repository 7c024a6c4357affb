/- Rows of zeros; the walk of the law on bounds. -/
import Derived.Test.YtkdkihacpjhgmaaZ3
import Derived.Test.YtkdkihacpjhgmaaZ4
import Derived.Test.YtkdkihacpjhgmaaZE
import Derived.Test.YtkdkihacpjhgmaaXK
namespace Go.Proofs.Ytkdkihacpjhgmaa
set_option linter.unusedSimpArgs false
set_option linter.unusedVariables false
open Go.RowKit

theorem made_list (z : List Value) (N : Nat) : (madeCells z.toArray N).toList = (List.range N).map (fun i => z.toArray[i % z.length]!) := by simp [madeCells]
theorem range_self (z : List Value) : (List.range z.length).map (fun k => z.toArray[k]!) = z := by
  apply List.ext_getElem
  · simp
  · intro i h1 h2
    simp [getElem!_pos, h2]
theorem made_rep (z : List Value) : ∀ n : Nat, (List.range (n * z.length)).map (fun i => z.toArray[i % z.length]!) = (List.replicate n ()).flatMap fun _ => z
  | 0 => by simp
  | n + 1 => by
    rw [Nat.succ_mul, List.range_add, List.map_append, made_rep z n, List.replicate_succ', List.flatMap_append]
    congr 1
    rw [List.map_map]
    simp only [List.flatMap_cons, List.flatMap_nil, List.append_nil]
    conv => rhs; rw [← range_self z]
    apply List.map_congr_left
    intro k hk
    have hk' := List.mem_range.1 hk
    simp only [Function.comp]
    rw [Nat.mul_comm, Nat.mul_add_mod, Nat.mod_eq_of_lt hk']
theorem rep_flat {α : Type} (f : α → List Value) (x : α) : ∀ n : Nat, (List.replicate n ()).flatMap (fun _ => f x) = (List.replicate n x).flatMap f
  | 0 => rfl
  | n + 1 => by rw [List.replicate_succ, List.replicate_succ, List.flatMap_cons, List.flatMap_cons, rep_flat f x n]
theorem made_flat {α : Type} (f : α → List Value) (x : α) (s : Nat) (hs : (f x).length = s) (n : Nat) : madeCells (f x).toArray (n * s) = ((List.replicate n x).flatMap f).toArray := by
  subst hs
  apply Array.toList_inj.1
  rw [made_list, made_rep, rep_flat]
def ZM : MIn := ⟨ZI, none, 0⟩
theorem ZM_cells : ZM.cells = ZIN := rfl
theorem mk_ins (w : World) (n : Nat) (hn : n ≤ 2000) : (Instr.makeSlice 22 (.int .i64 (n : Int)) (.int .i64 (n : Int))).run Try.prog w = .ok (.slice (some ⟨w.heap.size, 0, none⟩) n n) (w.alloc (.cells ((List.replicate n ZM).flatMap MIn.cells).toArray 58)) := by
  obtain ⟨i0, hi, hz0, hz1, hz2⟩ := infoIn_parts Try.infoIn
  have := run_makeSlice (P := Try.prog) w 22 58 i0 _ Try.underlying22 hi hz0 .i64 .i64 (n : Int) (n : Int) (by omega) (by omega) (by rw [hz1]; omega) (by rw [hz2]; omega) (by omega)
  rw [this, hz1]
  have e := made_flat MIn.cells ZM 36 ZIN_len n
  simp only [Int.toNat_natCast]
  rw [← e]
  rfl
theorem mk_outs (w : World) (n : Nat) (hn : n ≤ 2000) : (Instr.makeSlice 23 (.int .i64 (n : Int)) (.int .i64 (n : Int))).run Try.prog w = .ok (.slice (some ⟨w.heap.size, 0, none⟩) n n) (w.alloc (.cells ((List.replicate n ZO).flatMap TOut.cells).toArray 49)) := by
  obtain ⟨i0, hi, hz0, hz1, hz2⟩ := infoOut_parts Try.infoOut
  have := run_makeSlice (P := Try.prog) w 23 49 i0 _ Try.underlying23 hi hz0 .i64 .i64 (n : Int) (n : Int) (by omega) (by omega) (by rw [hz1]; omega) (by rw [hz2]; omega) (by omega)
  rw [this, hz1]
  have e := made_flat TOut.cells ZO 2 rfl n
  simp only [Int.toNat_natCast]
  rw [← e]
  rfl
theorem mk_strs (w : World) (n : Nat) (hn : n ≤ 2000) : (Instr.makeSlice 56 (.int .i64 (n : Int)) (.int .i64 (n : Int))).run Try.prog w = .ok (.slice (some ⟨w.heap.size, 0, none⟩) n n) (w.alloc (.cells (strs (List.replicate n [])).toArray 9)) := by
  obtain ⟨i0, hi, hz0, hz1, hz2⟩ := infoS_parts Try.infoStr
  have := run_makeSlice (P := Try.prog) w 56 9 i0 _ Try.underlying56 hi hz0 .i64 .i64 (n : Int) (n : Int) (by omega) (by omega) (by rw [hz1]; omega) (by rw [hz2]; omega) (by omega)
  rw [this, hz1]
  have e := made_flat (fun _ : Unit => [Value.string ⟨#[]⟩]) () 1 rfl n
  have e2 : (List.replicate n ()).flatMap (fun _ : Unit => [Value.string ⟨#[]⟩]) = strs (List.replicate n []) := by
    unfold strs
    rw [List.map_replicate]
    clear this e
    induction n with
    | zero => rfl
    | succ n ih => rw [List.replicate_succ, List.replicate_succ, List.flatMap_cons, ih (by omega)]; rfl
  simp only [Int.toNat_natCast]
  rw [← e2, ← e]
  rfl
theorem mk_bys (w : World) (n : Nat) (hn : n ≤ 200000) : (Instr.makeSlice 27 (.int .i64 (n : Int)) (.int .i64 (n : Int))).run Try.prog w = .ok (.slice (some ⟨w.heap.size, 0, none⟩) n n) (w.alloc (.cells (bys (List.replicate n 0)).toArray 5)) := by
  obtain ⟨i0, hi, hz0, hz1, hz2⟩ := info_parts Try.info5
  have := run_makeSlice (P := Try.prog) w 27 5 i0 (.int .u8 0) Try.underlying27 hi hz0 .i64 .i64 (n : Int) (n : Int) (by omega) (by omega) (by rw [hz1]; omega) (by rw [hz2]; omega) (by omega)
  rw [this, hz1]
  have e : madeCells (Value.int .u8 0).cells (n * 1) = (bys (List.replicate n 0)).toArray := by
    apply Array.toList_inj.1
    show (madeCells #[Value.int .u8 0] (n * 1)).toList = _
    rw [toList_madeCells_one]
    simp [bys]
  simp only [e, Int.toNat_natCast]
theorem ZI_ok : ZI.ok := ⟨rfl, (fun c hc => by have := List.eq_of_mem_replicate hc; omega), by simp [ZI], (fun c hc => by cases hc), by simp [ZI], by simp [ZI], (fun p hp => by cases hp)⟩
theorem ZO_ok : ZO.ok := ⟨by simp [ZO], by simp [ZO], (fun c hc => by cases hc), by simp [ZO]⟩
theorem ZM_at (w : World) (B : Nat) : InAt w B ZM := ⟨Rd.nil, ZI_ok, by simp [ZM, ZI], by simp [ZM]⟩
theorem i64_and1 (n : Int) : bits .and .i64 n 1 = n % 2 := by
  have h63 : (BitVec.ofInt 64 1).toNat = 2 ^ 1 - 1 := by decide
  have key : (BitVec.ofInt 64 n &&& BitVec.ofInt 64 1).toNat = (n % ((2 ^ 64 : Nat) : Int)).toNat % 2 ^ 1 := by
    rw [BitVec.toNat_and, BitVec.toNat_ofInt, h63, Nat.and_two_pow_sub_one_eq_mod]
  show IntKind.i64.wrap ((BitVec.ofInt 64 n &&& BitVec.ofInt 64 1).toNat : Nat) = n % 2
  rw [key, IntKind.wrap_i64]
  omega
theorem i64_and3 (n : Int) : bits .and .i64 n 3 = n % 4 := by
  have h63 : (BitVec.ofInt 64 3).toNat = 2 ^ 2 - 1 := by decide
  have key : (BitVec.ofInt 64 n &&& BitVec.ofInt 64 3).toNat = (n % ((2 ^ 64 : Nat) : Int)).toNat % 2 ^ 2 := by
    rw [BitVec.toNat_and, BitVec.toNat_ofInt, h63, Nat.and_two_pow_sub_one_eq_mod]
  show IntKind.i64.wrap ((BitVec.ofInt 64 n &&& BitVec.ofInt 64 3).toNat : Nat) = n % 4
  rw [key, IntKind.wrap_i64]
  omega
/-- A transaction in its box. -/
structure EdS (w wx : World) (gt : Nat) (T : MTx) : Prop where
  b : Below w.heap.size w wx
  box : Bx4 wx gt (.int .i32 T.ver) (.slice T.ia T.ins.length T.ic) (.slice T.oa T.outs.length T.oc) (.int .u32 (T.lock : Int))
  tx : TxAt wx wx.heap.size T
  gl : w.heap.size ≤ gt
  i1 : T.ins.length ≤ 100000
  o1 : T.outs.length ≤ 100000
end Go.Proofs.Ytkdkihacpjhgmaa
