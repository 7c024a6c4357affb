/- Mask: The walk of CrcMasks. -/
import Derived.Test.YtajgmadohhagkaaDoorW1
import Derived.Test.YtajgmadohhagkaaDoorApp
import Derived.IntWalk
import Derived.Deep.RegionHeld3
namespace Go.Proofs.YtajgmadohhagkaaDoor
set_option linter.unusedSimpArgs false
set_option linter.unusedVariables false
open Go.RowKit

def rotR (N : Nat) : Nat := N / 32768 + N % 32768 * 131072
def rotL (N : Nat) : Nat := N / 131072 + N % 131072 * 32768
theorem wraps_32 (n : Int) (h0 : 0 ≤ n) (h1 : n < 2 ^ 32) : IntKind.u32.wrap n = n := by rw [IntKind.wrap_u32]; omega
theorem or_rotR (N : Nat) (h : (N : Int) < 4294967296) : bits .or .u32 ((N : Int) * 131072 % 4294967296) ((N : Int) / 32768) = ((rotR N : Nat) : Int) := by
  rw [bits_join .u32 32 (by decide) wraps_32 17 _ _ (by omega) (by omega) (by omega) (by omega) (by omega) (by omega)]
  unfold rotR
  omega
theorem or_rotL (N : Nat) (h : (N : Int) < 4294967296) : bits .or .u32 ((N : Int) * 32768 % 4294967296) ((N : Int) / 131072) = ((rotL N : Nat) : Int) := by
  rw [bits_join .u32 32 (by decide) wraps_32 15 _ _ (by omega) (by omega) (by omega) (by omega) (by omega) (by omega)]
  unfold rotL
  omega

set_option maxHeartbeats 400000 in
set_option maxRecDepth 100000 in
theorem rotR_any (N : Nat) (hN : (N : Int) < 4294967296) (w : World) :
    Calls Tryd.prog 38 #[.int .u32 (N : Int), .int .i64 (-15)] w fun e w' => e = .returned (.int .u32 ((rotR N : Nat) : Int)) ∧ w = w' := by
  have hs : bits .and .u64 (IntKind.u64.wrap (-15)) 31 = 17 := by decide
  go_enter Tryd.func38, Tryd.ntmps38
  go_wp2
  go_ret
  exact ⟨congrArg (fun z => Ending.returned (.int .u32 z)) (or_rotR N hN), rfl⟩
set_option maxHeartbeats 400000 in
set_option maxRecDepth 100000 in
theorem rotL_any (N : Nat) (hN : (N : Int) < 4294967296) (w : World) :
    Calls Tryd.prog 38 #[.int .u32 (N : Int), .int .i64 15] w fun e w' => e = .returned (.int .u32 ((rotL N : Nat) : Int)) ∧ w = w' := by
  have hs : bits .and .u64 15 31 = 15 := by decide
  go_enter Tryd.func38, Tryd.ntmps38
  go_wp2
  go_ret
  exact ⟨congrArg (fun z => Ending.returned (.int .u32 z)) (or_rotL N hN), rfl⟩

def KK : Nat := 2726488792
def mk (N : Nat) : Nat := (rotR N + KK) % 4294967296
def um (N : Nat) : Nat := rotL ((N + (4294967296 - KK)) % 4294967296)
theorem KK_lt : KK < 4294967296 := by unfold KK; decide
theorem rotR_lt (N : Nat) (h : N < 4294967296) : rotR N < 4294967296 := by unfold rotR; omega
theorem rotL_lt (N : Nat) (h : N < 4294967296) : rotL N < 4294967296 := by unfold rotL; omega
theorem rotL_rotR (N : Nat) (h : N < 4294967296) : rotL (rotR N) = N := by unfold rotR rotL; omega
theorem rotR_rotL (N : Nat) (h : N < 4294967296) : rotR (rotL N) = N := by unfold rotR rotL; omega
theorem mk_lt (N : Nat) : mk N < 4294967296 := Nat.mod_lt _ (by decide)
theorem um_lt (N : Nat) : um N < 4294967296 := rotL_lt _ (Nat.mod_lt _ (by decide))
theorem um_mk (N : Nat) (h : N < 4294967296) : um (mk N) = N := by
  have h1 := rotR_lt N h
  have h2 := KK_lt
  unfold um mk
  rw [show ((rotR N + KK) % 4294967296 + (4294967296 - KK)) % 4294967296 = rotR N by omega, rotL_rotR N h]
theorem mk_um (N : Nat) (h : N < 4294967296) : mk (um N) = N := by
  have h2 := KK_lt
  unfold um mk
  rw [rotR_rotL _ (Nat.mod_lt _ (by decide))]
  omega
theorem KK_cast : ((KK : Nat) : Int) = 2726488792 := rfl
set_option maxHeartbeats 400000 in
set_option maxRecDepth 100000 in
theorem mask_any (N : Nat) (hN : (N : Int) < 4294967296) (w : World) :
    Calls Tryd.prog 30 #[.int .u32 (N : Int)] w fun e w' => e = .returned (.int .u32 ((mk N : Nat) : Int)) ∧ w = w' := by
  go_enter Tryd.func30, Tryd.ntmps30
  go_wp2_with fail
  refine (rotR_any N hN w).mono ?_
  rintro e w1 ⟨rfl, rfl⟩
  have hE : ((rotR N : Nat) : Int) + 2726488792 = ((rotR N + KK : Nat) : Int) := by rw [Int.natCast_add, KK_cast]
  have hM : ((mk N : Nat) : Int) = (((rotR N : Nat) : Int) + 2726488792) % 4294967296 := by rw [hE]; unfold mk; omega
  have HM := Lib.hid hM
  clear hM hE
  generalize rotR N = r at *
  go_wp2
  go_ret
  refine ⟨?_, rfl⟩
  rw [HM.out]
  rfl
end Go.Proofs.YtajgmadohhagkaaDoor
