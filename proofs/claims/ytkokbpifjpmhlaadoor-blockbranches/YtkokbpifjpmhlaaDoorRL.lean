/- The loops of the reference's Sum, taken out of the translation. -/
import Derived.Test.YtkokbpifjpmhlaaDoorR5
namespace Go.Proofs.YtkokbpifjpmhlaaDoor
open Go.RowKit
set_option linter.unusedSimpArgs false
set_option linter.unusedVariables false
/-- All loops' bodies, an outer one ahead of its inner ones. -/
def loops : Code → List Code
  | .loop c => c :: loops c
  | .seq a b => loops a ++ loops b
  | .block _ c => loops c
  | .scope c => loops c
  | .cond _ a b => loops a ++ loops b
  | _ => []
noncomputable def lp (k : Nat) : Code := (((Tryd.f39.body.map loops).getD []).getD k .skip)
theorem lp_len : ((Tryd.f39.body.map loops).getD []).length = 8 := by kernel_rfl
end Go.Proofs.YtkokbpifjpmhlaaDoor
