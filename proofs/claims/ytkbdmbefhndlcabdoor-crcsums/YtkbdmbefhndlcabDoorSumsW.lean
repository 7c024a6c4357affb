/- The walk of CrcSums. -/
import Derived.Test.YtkbdmbefhndlcabDoorW3
namespace Go.Proofs.YtkbdmbefhndlcabDoor
set_option linter.unusedSimpArgs false
set_option linter.unusedVariables false
open Go.RowKit

set_option maxHeartbeats 1000000 in
set_option maxRecDepth 100000 in
theorem sums_walk (A : Option Addr) (n c : Nat) (l : List Nat) (w : World) (hr : Rd w w.heap.size A n (bys l)) (hb : ∀ c ∈ l, c < 256) (ht : TabAt w) :
    Calls Tryd.prog 3 #[.slice A n c] w fun e w' => e = .returned (.bool true) ∧ Below w.heap.size w w' := by
  have HT := Lib.hid ht
  clear ht
  by_cases h4 : (400 : Int) < (n : Int)
  · go_enter Tryd.func3, Tryd.ntmps3
    go_wp2_with fail
    refine (head_any _ HT.out).mono ?_
    rintro e w1 ⟨rfl, hw1⟩
    go_wp2_with fail
    go_ret
    exact ⟨rfl, hw1⟩
  · have d4 : decide ((400 : Int) < (n : Int)) = false := by simp; omega
    have hn9 : n ≤ 1000000000 := by omega
    go_enter Tryd.func3, Tryd.ntmps3
    go_wp2_with fail
    refine (head_any _ HT.out).mono ?_
    rintro e w1 ⟨rfl, hw1⟩
    have hT1 := Lib.hid (HT.out.below hw1 HT.out.1)
    have ha1 := hr.below hw1
    have hs1 := hw1.size
    go_wp2_with fail
    refine (sum_any A n c l w1 _ ha1 hb hn9 hT1.out).mono ?_
    rintro e w2 ⟨rfl, rfl⟩
    go_wp2_with fail
    refine (refsum_any A n c l w1 (ha1.up hs1) hb hn9).mono ?_
    rintro e w2 ⟨rfl, hw2⟩
    go_wp2
    go_ret
    exact ⟨by simp, hw1.trans (hw2.mono hs1)⟩
end Go.Proofs.YtkbdmbefhndlcabDoor
