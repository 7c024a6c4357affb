/- Elements of s cells that are copied in a row; slices.Insert of one entry. -/
import Derived.Test.YtgdkcnpgnmmliabRowN
import Derived.Test.YtgdkcnpgnmmliabChkM
import Derived.Test.YtgdkcnpgnmmliabAt4
import Derived.Lib.Overlaps
import Derived.Lib.AppendZerosOnto
import Derived.Laws.Externs
namespace Go.Proofs.Ytgdkcnpgnmmliab
set_option linter.unusedSimpArgs false
set_option linter.unusedVariables false
open Go.RowKit

def seg (l : List Value) (o : Nat) (cs : List Value) : List Value := l.take o ++ cs ++ l.drop (o + cs.length)
theorem seg_length (l : List Value) (o : Nat) (cs : List Value) (h : o + cs.length ≤ l.length) : (seg l o cs).length = l.length := by
  unfold seg; simp; omega
theorem take_seg (l : List Value) (o : Nat) (cs : List Value) (h : o + cs.length ≤ l.length) : (seg l o cs).take (o + cs.length) = l.take o ++ cs := by
  unfold seg
  rw [List.take_append_of_le_length (by simp; omega), List.take_of_length_le (by simp; omega)]
theorem seg_xy (l : List Value) (a : Nat) (x ys : List Value) (h : a + x.length + ys.length ≤ l.length) :
    (seg (seg l a x) (a + x.length) ys).take (a + x.length + ys.length) = l.take a ++ x ++ ys := by
  rw [take_seg _ _ _ (by rw [seg_length _ _ _ (by omega)]; exact h), take_seg _ _ _ (by omega)]
theorem seg_yx (l : List Value) (a : Nat) (x ys : List Value) (h : a + x.length + ys.length ≤ l.length) :
    (seg (seg l (a + x.length) ys) a x).take (a + x.length + ys.length) = l.take a ++ x ++ ys := by
  have e1 : (seg l (a + x.length) ys).take a = l.take a := by
    unfold seg
    rw [List.append_assoc, List.take_append_of_le_length (by simp; omega), List.take_take, Nat.min_eq_left (by omega)]
  have e2 : (seg l (a + x.length) ys).drop (a + x.length) = ys ++ l.drop (a + x.length + ys.length) := by
    unfold seg
    rw [List.append_assoc, List.drop_append, List.drop_eq_nil_of_le (by simp; omega), List.length_take, Nat.min_eq_left (by omega), Nat.sub_self]; simp
  have e3 : seg (seg l (a + x.length) ys) a x = l.take a ++ x ++ ys ++ l.drop (a + x.length + ys.length) := by
    conv => lhs; unfold seg
    rw [show (List.take (a + x.length) l ++ ys ++ List.drop (a + x.length + ys.length) l) = seg l (a + x.length) ys from rfl, e1, e2]; simp
  rw [e3, List.take_append_of_le_length (by simp; omega), List.take_of_length_le (by simp; omega)]

theorem run_copy_rowN {P : Program} (w : World) (dT sT ty elem : TypeId) (g o dLen dCap : Nat) (a : Addr) (sLen sCap : Nat) (cur : Array Value) (t : TypeId) (cs : List Value) (s : Nat) (i : TypeInfo)
    (hu : P.underlying dT = some (.slice elem)) (hi : P.info? elem = some i) (hs : i.size = s)
    (hg : w.heap[g]? = some (.cells cur t (0, 0))) (hn : cs.length = Nat.min sLen dLen * s)
    (hsrc : ∀ j v, cs[j]? = some v → w.cell? (a.add j) = some v) (hfit : o + cs.length ≤ cur.size) (h1 : ∀ v ∈ cs, v.oneCell' = true) :
    (Builtin.copy_ #[dT, sT] ty #[.slice (some ⟨g, o, none⟩) dLen dCap, .slice (some a) sLen sCap]).run P w = .ok (goInt (Nat.min sLen dLen)) (w.setRow g (seg cur.toList o cs).toArray) := by
  have hl := run_loadCells_list (P := P) w a cs hsrc
  have hst := run_storeCells_at P g o t cs 0 cur w hg (by simpa using hfit) h1
  unfold seg
  simp [Builtin.copy_, run_underlying hu, Builtin.lenOf, Builtin.firstCells, sizeOf, typeInfo, hi, hs, ← hn, hl]
  rw [show (sLen.min dLen) * s = cs.length from hn.symm] at *
  simp [hl, hst]
theorem wp_copy_run {P : Program} {w : World} {o : Oper} {a : Act} {K : Act → World → Prop} {Q : Exit → Act → World → Prop} (d s : Operand) (t t' : TypeId)
    (ho : o.op = .call { callee := .builtin .copy, args := #[d, s], argTypes := #[t, t'] }) {v u v' : Value} {w' : World} (hd : a.eval d = v) (hs : a.eval s = u)
    (hr : (Builtin.copy_ #[t, t'] o.type #[v, u]).run P w = .ok v' w') (h : K (a.put o.dst v') w') : o.wp P a w K Q := by
  unfold Oper.wp execOp
  simp only [ho, resolve, invoke, builtin, Sem.run_bind, Sem.run_pure, Result.andThen_ok, List.map_toArray, List.map_cons, List.map_nil, hd, hs, hr]
  exact h
theorem wpList_copy_run {P : Program} {w : World} {ops : Array Oper} {rest : List Oper} {dst : Option Nat} {ty : TypeId} {ps : String} {af : Array _} {a : Act} {Q : Exit → Act → World → Prop} (d s : Operand) (t t' : TypeId)
    {v u v' : Value} {w' : World} (hr : (Builtin.copy_ #[t, t'] ty #[v, u]).run P w = .ok v' w') (hd : a.eval d = v) (hs : a.eval s = u)
    (h : wpList P ops Q rest (a.put dst v') w') : wpList P ops Q ({ dst := dst, op := .call { callee := .builtin .copy, args := #[d, s], argTypes := #[t, t'] }, type := ty, pos := ps, after := af, guard := none } :: rest) a w :=
  wpList_plain rfl fun _ hK => wp_copy_run d s t t' rfl hd hs hr (hK _ _ h)
end Go.Proofs.Ytgdkcnpgnmmliab
