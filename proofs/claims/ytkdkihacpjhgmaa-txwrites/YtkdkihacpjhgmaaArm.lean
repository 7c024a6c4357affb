/- Laws of the walk that fail at once where they do not fit: the operation is written out. -/
import Derived.Test.YtkdkihacpjhgmaaRowN
namespace Go.Proofs.Ytkdkihacpjhgmaa
set_option linter.unusedSimpArgs false
set_option linter.unusedVariables false
open Go.RowKit

theorem arm_build1 {P : Program} {ops : Array Oper} {rest : List Oper} {a : Act} {w : World} {Q : Exit → Act → World → Prop} {d : Option Tmp} {ty : TypeId} {pos : String} {af : Array Edge} (t : TypeId) (x : Operand) {v' : Value} {w' : World}
    (hrun : (Instr.buildSlice t 1 #[(0, a.eval x)]).run P w = .ok v' w') (hK : wpList P ops Q rest (a.put d v') w') :
    wpList P ops Q ({ dst := d, op := .buildSlice t 1 #[(0, x)], type := ty, pos := pos, after := af, guard := none } :: rest) a w :=
  wpList_of_wp rfl fun K hK' => wp_buildSlice_1 t x rfl rfl hrun (hK' _ _ hK)
theorem arm_append {P : Program} {ops : Array Oper} {rest : List Oper} {a : Act} {w : World} {Q : Exit → Act → World → Prop} {d : Option Tmp} {ty : TypeId} {pos : String} {af : Array Edge} (t : TypeId) (s x : Operand) {v' : Value} {w' : World}
    (hrun : (Builtin.append_ #[t, t] ty #[a.eval s, a.eval x]).run P w = .ok v' w') (hK : wpList P ops Q rest (a.put d v') w') :
    wpList P ops Q ({ dst := d, op := .call { callee := .builtin .append, args := #[s, x], argTypes := #[t, t] }, type := ty, pos := pos, after := af, guard := none } :: rest) a w :=
  wpList_of_wp rfl fun K hK' => wp_append_run s x t rfl rfl rfl hrun (hK' _ _ hK)
end Go.Proofs.Ytkdkihacpjhgmaa
