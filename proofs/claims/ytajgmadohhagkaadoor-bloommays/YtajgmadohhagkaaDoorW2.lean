/- Contracts of the reference's bits and Mask, and of crc.Mask, crc.Unmask. -/
import Derived.Test.YtajgmadohhagkaaDoorLin
import Derived.Test.YtajgmadohhagkaaDoorN0
import Derived.Deep.LoopGhost
import Derived.IntWalk
namespace Go.Proofs.YtajgmadohhagkaaDoor
set_option linter.unusedSimpArgs false
set_option linter.unusedVariables false
open Go.RowKit

theorem Tryd.info3 : (Tryd.prog.info? 3).map (fun i => (i.zero, i.size, i.bytes)) = some (some (.int .i64 0), 1, 8) := by kernel_rfl
/-- Numbers as cells of ints. -/
def ints (l : List Nat) : List Value := l.map fun (x : Nat) => Value.int .i64 (x : Int)
theorem ints_len (l : List Nat) : (ints l).length = l.length := by simp [ints]
theorem ints_app (l m : List Nat) : ints (l ++ m) = ints l ++ ints m := by simp [ints]
theorem ints_get (l : List Nat) (k : Nat) (h : k < l.length) : (ints l)[k]? = some (.int .i64 (l.getD k 0 : Int)) := by
  simp [ints, List.getElem?_map, List.getElem?_eq_getElem h, List.getD_eq_getElem?_getD]
theorem ints_one (l : List Nat) : ∀ u ∈ ints l, u.oneCell' = true := by
  intro u hu
  simp [ints] at hu
  obtain ⟨x, _, rfl⟩ := hu
  rfl
/-- The first j bits of a number, the lowest first. -/
def bl (N : Nat) : Nat → List Nat
  | 0 => []
  | j + 1 => bl N j ++ [N / 2 ^ j % 2]
theorem bl_len (N j : Nat) : (bl N j).length = j := by
  induction j with
  | zero => rfl
  | succ j ih => simp [bl, ih]

set_option maxHeartbeats 1000000 in
set_option maxRecDepth 100000 in
theorem bits_any (N : Nat) (hN : (N : Int) < 4294967296) (w : World) :
    Calls Tryd.prog 31 #[.int .u32 (N : Int)] w fun e w' => ∃ v, e = .returned v ∧ Buf w' w.heap.size v 32 (ints (bl N 32)) ∧ Below w.heap.size w w' := by
  obtain ⟨i0, hi, hz0, hz1, hz2⟩ := info_parts Tryd.info3
  go_enter Tryd.func31, Tryd.ntmps31
  have hnew := Buf.new w w.heap.size 3 #[] (0, 0) (Nat.le_refl _) (by unfold maxLen; simp)
  have hbel : Below w.heap.size w (w.alloc (.cells #[] 3)) := (Below.refl _ _).alloc (Nat.le_refl _) _
  go_wp2_with fail
  go_loopg [0, 3, 4] 32 (fun k nv vx i wr => ∃ j : Nat, k = 32 - j ∧ j ≤ 32 ∧ i = .int .i64 (j : Int) ∧ nv = .int .u32 ((N / 2 ^ j : Nat) : Int) ∧ Below w.heap.size w wr ∧ Buf wr w.heap.size vx j (ints (bl N j)))
  case atStart =>
    exact ⟨0, rfl, Nat.zero_le _, rfl, by simp, hbel, hnew⟩
  case round =>
    obtain ⟨j, hk, hj, rfl, rfl, hbw, hX⟩ := hrel
    have hK := Lib.hid hk
    clear hk
    have hbs := hbw.size
    have S1 := Lib.hid (show bl N (j + 1) = bl N j ++ [N / 2 ^ j % 2] from rfl)
    have hle : N / 2 ^ j ≤ N := Nat.div_le_self _ _
    have S2 := Lib.hid (show N / 2 ^ j / 2 = N / 2 ^ (j + 1) by rw [Nat.div_div_eq_div_mul, Nat.pow_succ])
    generalize N / 2 ^ j = Y at *
    by_cases hlt : j < 32
    · have hlt' : (j : Int) < 32 := by omega
      have hY0 : (0 : Int) ≤ (Y : Int) := by omega
      have hYu : (Y : Int) < 4294967296 := by omega
      have hwr : IntKind.i64.wrap ((Y : Int) % 2) = (Y : Int) % 2 := by rw [IntWalk.i64_in _ (by omega)]
      have hwu : IntKind.u32.wrap ((Y : Int) / 2) = (Y : Int) / 2 := by rw [IntWalk.u32_in _ (by omega)]
      go_wp2_with (at_builtin; refine wpList_append_one _ rfl (.tmp 10) (.tmp 14) 31 rfl w.heap.size 3 i0 (.int .i64 0) 8 Tryd.underlying31 hi hz0 hz1 hz2 rfl rfl hX rfl rfl ?b1 ?b2 hbs ?next)
      case b1 => unfold maxLen; omega
      case b2 => omega
      case next =>
        intro v' w' r1 r2 r3
        have hB1 := (Below.refl w.heap.size wr).grown r2 hbs fun k hk => (hX.lt k hk).1
        have hbw2 := hbw.trans hB1
        clear r2 r3 hX hbw hB1
        go_wp2
        go_roundg (32 - (j + 1))
        case measure => have := hK.out; omega
        case rel =>
          refine ⟨j + 1, rfl, by omega, by go_num, ?_, hbw2, ?_⟩
          · rw [← S2.out]; simp
          · rw [S1.out, ints_app]; simpa [ints] using r1
    · obtain rfl : j = 32 := by omega
      go_wp2
      go_ret
      exact ⟨_, rfl, hX, hbw⟩
end Go.Proofs.YtajgmadohhagkaaDoor
