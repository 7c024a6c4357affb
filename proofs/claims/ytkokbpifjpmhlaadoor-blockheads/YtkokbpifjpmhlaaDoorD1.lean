/- Walks: bits.RotateLeft32, sha.right, sha.start, sha.step; the reference's right. -/
import Derived.Test.YtkokbpifjpmhlaaDoorRows
import Derived.Test.YtkokbpifjpmhlaaDoorArrIn
import Derived.WalkKit
import Derived.WalkSpells
import Derived.WalkLawsBesides
import Derived.Deep.LoopGhost
import Derived.Lib.Hide
import Derived.Deep.QuietTactic
import Derived.BigQuiet
import Derived.Deep.RegionWith
import Derived.Deep.RegionHeld3
import Derived.IntWalk
namespace Go.Proofs.YtkokbpifjpmhlaaDoor
set_option linter.unusedSimpArgs false
set_option linter.unusedVariables false
open Go.RowKit

/-- A word. -/
def W32 (x : Int) : Prop := 0 ≤ x ∧ x < 4294967296
/-- x turned right: a is 2^n, b is 2^(32-n). -/
def rr (a b x : Int) : Int := x / a + x % a * b
theorem wraps_32 (n : Int) (h0 : 0 ≤ n) (h1 : n < 2 ^ 32) : IntKind.u32.wrap n = n := by rw [IntKind.wrap_u32]; omega

theorem or_rr2 (x : Int) (h : W32 x) : bits .or .u32 (x * 1073741824 % 4294967296) (x / 4) = rr 4 1073741824 x := by
  unfold W32 at h
  rw [bits_join .u32 32 (by decide) wraps_32 30 _ _ (by omega) (by omega) (by omega) (by omega) (by omega) (by omega)]
  unfold rr
  omega
set_option maxHeartbeats 400000 in
set_option maxRecDepth 100000 in
theorem rot2_any (x : Int) (h : W32 x) (w : World) :
    Calls Tryd.prog 42 #[.int .u32 x, .int .i64 (-2)] w fun e w' => e = .returned (.int .u32 (rr 4 1073741824 x)) ∧ w = w' := by
  have hs : bits .and .u64 (IntKind.u64.wrap (-2)) 31 = 30 := by decide
  have h0 := h.1
  have h1 := h.2
  have H := Lib.hid h
  clear h
  go_enter Tryd.func42, Tryd.ntmps42
  go_wp2
  go_ret
  exact ⟨congrArg (fun z => Ending.returned (.int .u32 z)) (or_rr2 x H.out), rfl⟩
set_option maxHeartbeats 400000 in
set_option maxRecDepth 100000 in
theorem right2_any (x : Int) (h : W32 x) (w : World) :
    Calls Tryd.prog 40 #[.int .u32 x, .int .i64 2] w fun e w' => e = .returned (.int .u32 (rr 4 1073741824 x)) ∧ w = w' := by
  have H := Lib.hid h
  clear h
  go_enter Tryd.func40, Tryd.ntmps40
  go_wp2_with fail
  refine (rot2_any _ H.out _).mono ?_
  rintro e w' ⟨rfl, rfl⟩
  go_wp2_with fail
  go_ret
  exact ⟨rfl, rfl⟩

theorem or_rr6 (x : Int) (h : W32 x) : bits .or .u32 (x * 67108864 % 4294967296) (x / 64) = rr 64 67108864 x := by
  unfold W32 at h
  rw [bits_join .u32 32 (by decide) wraps_32 26 _ _ (by omega) (by omega) (by omega) (by omega) (by omega) (by omega)]
  unfold rr
  omega
set_option maxHeartbeats 400000 in
set_option maxRecDepth 100000 in
theorem rot6_any (x : Int) (h : W32 x) (w : World) :
    Calls Tryd.prog 42 #[.int .u32 x, .int .i64 (-6)] w fun e w' => e = .returned (.int .u32 (rr 64 67108864 x)) ∧ w = w' := by
  have hs : bits .and .u64 (IntKind.u64.wrap (-6)) 31 = 26 := by decide
  have h0 := h.1
  have h1 := h.2
  have H := Lib.hid h
  clear h
  go_enter Tryd.func42, Tryd.ntmps42
  go_wp2
  go_ret
  exact ⟨congrArg (fun z => Ending.returned (.int .u32 z)) (or_rr6 x H.out), rfl⟩
set_option maxHeartbeats 400000 in
set_option maxRecDepth 100000 in
theorem right6_any (x : Int) (h : W32 x) (w : World) :
    Calls Tryd.prog 40 #[.int .u32 x, .int .i64 6] w fun e w' => e = .returned (.int .u32 (rr 64 67108864 x)) ∧ w = w' := by
  have H := Lib.hid h
  clear h
  go_enter Tryd.func40, Tryd.ntmps40
  go_wp2_with fail
  refine (rot6_any _ H.out _).mono ?_
  rintro e w' ⟨rfl, rfl⟩
  go_wp2_with fail
  go_ret
  exact ⟨rfl, rfl⟩

theorem or_rr7 (x : Int) (h : W32 x) : bits .or .u32 (x * 33554432 % 4294967296) (x / 128) = rr 128 33554432 x := by
  unfold W32 at h
  rw [bits_join .u32 32 (by decide) wraps_32 25 _ _ (by omega) (by omega) (by omega) (by omega) (by omega) (by omega)]
  unfold rr
  omega
set_option maxHeartbeats 400000 in
set_option maxRecDepth 100000 in
theorem rot7_any (x : Int) (h : W32 x) (w : World) :
    Calls Tryd.prog 42 #[.int .u32 x, .int .i64 (-7)] w fun e w' => e = .returned (.int .u32 (rr 128 33554432 x)) ∧ w = w' := by
  have hs : bits .and .u64 (IntKind.u64.wrap (-7)) 31 = 25 := by decide
  have h0 := h.1
  have h1 := h.2
  have H := Lib.hid h
  clear h
  go_enter Tryd.func42, Tryd.ntmps42
  go_wp2
  go_ret
  exact ⟨congrArg (fun z => Ending.returned (.int .u32 z)) (or_rr7 x H.out), rfl⟩
set_option maxHeartbeats 400000 in
set_option maxRecDepth 100000 in
theorem right7_any (x : Int) (h : W32 x) (w : World) :
    Calls Tryd.prog 40 #[.int .u32 x, .int .i64 7] w fun e w' => e = .returned (.int .u32 (rr 128 33554432 x)) ∧ w = w' := by
  have H := Lib.hid h
  clear h
  go_enter Tryd.func40, Tryd.ntmps40
  go_wp2_with fail
  refine (rot7_any _ H.out _).mono ?_
  rintro e w' ⟨rfl, rfl⟩
  go_wp2_with fail
  go_ret
  exact ⟨rfl, rfl⟩

theorem or_rr11 (x : Int) (h : W32 x) : bits .or .u32 (x * 2097152 % 4294967296) (x / 2048) = rr 2048 2097152 x := by
  unfold W32 at h
  rw [bits_join .u32 32 (by decide) wraps_32 21 _ _ (by omega) (by omega) (by omega) (by omega) (by omega) (by omega)]
  unfold rr
  omega
set_option maxHeartbeats 400000 in
set_option maxRecDepth 100000 in
theorem rot11_any (x : Int) (h : W32 x) (w : World) :
    Calls Tryd.prog 42 #[.int .u32 x, .int .i64 (-11)] w fun e w' => e = .returned (.int .u32 (rr 2048 2097152 x)) ∧ w = w' := by
  have hs : bits .and .u64 (IntKind.u64.wrap (-11)) 31 = 21 := by decide
  have h0 := h.1
  have h1 := h.2
  have H := Lib.hid h
  clear h
  go_enter Tryd.func42, Tryd.ntmps42
  go_wp2
  go_ret
  exact ⟨congrArg (fun z => Ending.returned (.int .u32 z)) (or_rr11 x H.out), rfl⟩
set_option maxHeartbeats 400000 in
set_option maxRecDepth 100000 in
theorem right11_any (x : Int) (h : W32 x) (w : World) :
    Calls Tryd.prog 40 #[.int .u32 x, .int .i64 11] w fun e w' => e = .returned (.int .u32 (rr 2048 2097152 x)) ∧ w = w' := by
  have H := Lib.hid h
  clear h
  go_enter Tryd.func40, Tryd.ntmps40
  go_wp2_with fail
  refine (rot11_any _ H.out _).mono ?_
  rintro e w' ⟨rfl, rfl⟩
  go_wp2_with fail
  go_ret
  exact ⟨rfl, rfl⟩

theorem or_rr13 (x : Int) (h : W32 x) : bits .or .u32 (x * 524288 % 4294967296) (x / 8192) = rr 8192 524288 x := by
  unfold W32 at h
  rw [bits_join .u32 32 (by decide) wraps_32 19 _ _ (by omega) (by omega) (by omega) (by omega) (by omega) (by omega)]
  unfold rr
  omega
set_option maxHeartbeats 400000 in
set_option maxRecDepth 100000 in
theorem rot13_any (x : Int) (h : W32 x) (w : World) :
    Calls Tryd.prog 42 #[.int .u32 x, .int .i64 (-13)] w fun e w' => e = .returned (.int .u32 (rr 8192 524288 x)) ∧ w = w' := by
  have hs : bits .and .u64 (IntKind.u64.wrap (-13)) 31 = 19 := by decide
  have h0 := h.1
  have h1 := h.2
  have H := Lib.hid h
  clear h
  go_enter Tryd.func42, Tryd.ntmps42
  go_wp2
  go_ret
  exact ⟨congrArg (fun z => Ending.returned (.int .u32 z)) (or_rr13 x H.out), rfl⟩
set_option maxHeartbeats 400000 in
set_option maxRecDepth 100000 in
theorem right13_any (x : Int) (h : W32 x) (w : World) :
    Calls Tryd.prog 40 #[.int .u32 x, .int .i64 13] w fun e w' => e = .returned (.int .u32 (rr 8192 524288 x)) ∧ w = w' := by
  have H := Lib.hid h
  clear h
  go_enter Tryd.func40, Tryd.ntmps40
  go_wp2_with fail
  refine (rot13_any _ H.out _).mono ?_
  rintro e w' ⟨rfl, rfl⟩
  go_wp2_with fail
  go_ret
  exact ⟨rfl, rfl⟩

theorem or_rr17 (x : Int) (h : W32 x) : bits .or .u32 (x * 32768 % 4294967296) (x / 131072) = rr 131072 32768 x := by
  unfold W32 at h
  rw [bits_join .u32 32 (by decide) wraps_32 15 _ _ (by omega) (by omega) (by omega) (by omega) (by omega) (by omega)]
  unfold rr
  omega
set_option maxHeartbeats 400000 in
set_option maxRecDepth 100000 in
theorem rot17_any (x : Int) (h : W32 x) (w : World) :
    Calls Tryd.prog 42 #[.int .u32 x, .int .i64 (-17)] w fun e w' => e = .returned (.int .u32 (rr 131072 32768 x)) ∧ w = w' := by
  have hs : bits .and .u64 (IntKind.u64.wrap (-17)) 31 = 15 := by decide
  have h0 := h.1
  have h1 := h.2
  have H := Lib.hid h
  clear h
  go_enter Tryd.func42, Tryd.ntmps42
  go_wp2
  go_ret
  exact ⟨congrArg (fun z => Ending.returned (.int .u32 z)) (or_rr17 x H.out), rfl⟩
set_option maxHeartbeats 400000 in
set_option maxRecDepth 100000 in
theorem right17_any (x : Int) (h : W32 x) (w : World) :
    Calls Tryd.prog 40 #[.int .u32 x, .int .i64 17] w fun e w' => e = .returned (.int .u32 (rr 131072 32768 x)) ∧ w = w' := by
  have H := Lib.hid h
  clear h
  go_enter Tryd.func40, Tryd.ntmps40
  go_wp2_with fail
  refine (rot17_any _ H.out _).mono ?_
  rintro e w' ⟨rfl, rfl⟩
  go_wp2_with fail
  go_ret
  exact ⟨rfl, rfl⟩

theorem or_rr18 (x : Int) (h : W32 x) : bits .or .u32 (x * 16384 % 4294967296) (x / 262144) = rr 262144 16384 x := by
  unfold W32 at h
  rw [bits_join .u32 32 (by decide) wraps_32 14 _ _ (by omega) (by omega) (by omega) (by omega) (by omega) (by omega)]
  unfold rr
  omega
set_option maxHeartbeats 400000 in
set_option maxRecDepth 100000 in
theorem rot18_any (x : Int) (h : W32 x) (w : World) :
    Calls Tryd.prog 42 #[.int .u32 x, .int .i64 (-18)] w fun e w' => e = .returned (.int .u32 (rr 262144 16384 x)) ∧ w = w' := by
  have hs : bits .and .u64 (IntKind.u64.wrap (-18)) 31 = 14 := by decide
  have h0 := h.1
  have h1 := h.2
  have H := Lib.hid h
  clear h
  go_enter Tryd.func42, Tryd.ntmps42
  go_wp2
  go_ret
  exact ⟨congrArg (fun z => Ending.returned (.int .u32 z)) (or_rr18 x H.out), rfl⟩
set_option maxHeartbeats 400000 in
set_option maxRecDepth 100000 in
theorem right18_any (x : Int) (h : W32 x) (w : World) :
    Calls Tryd.prog 40 #[.int .u32 x, .int .i64 18] w fun e w' => e = .returned (.int .u32 (rr 262144 16384 x)) ∧ w = w' := by
  have H := Lib.hid h
  clear h
  go_enter Tryd.func40, Tryd.ntmps40
  go_wp2_with fail
  refine (rot18_any _ H.out _).mono ?_
  rintro e w' ⟨rfl, rfl⟩
  go_wp2_with fail
  go_ret
  exact ⟨rfl, rfl⟩

theorem or_rr19 (x : Int) (h : W32 x) : bits .or .u32 (x * 8192 % 4294967296) (x / 524288) = rr 524288 8192 x := by
  unfold W32 at h
  rw [bits_join .u32 32 (by decide) wraps_32 13 _ _ (by omega) (by omega) (by omega) (by omega) (by omega) (by omega)]
  unfold rr
  omega
set_option maxHeartbeats 400000 in
set_option maxRecDepth 100000 in
theorem rot19_any (x : Int) (h : W32 x) (w : World) :
    Calls Tryd.prog 42 #[.int .u32 x, .int .i64 (-19)] w fun e w' => e = .returned (.int .u32 (rr 524288 8192 x)) ∧ w = w' := by
  have hs : bits .and .u64 (IntKind.u64.wrap (-19)) 31 = 13 := by decide
  have h0 := h.1
  have h1 := h.2
  have H := Lib.hid h
  clear h
  go_enter Tryd.func42, Tryd.ntmps42
  go_wp2
  go_ret
  exact ⟨congrArg (fun z => Ending.returned (.int .u32 z)) (or_rr19 x H.out), rfl⟩
set_option maxHeartbeats 400000 in
set_option maxRecDepth 100000 in
theorem right19_any (x : Int) (h : W32 x) (w : World) :
    Calls Tryd.prog 40 #[.int .u32 x, .int .i64 19] w fun e w' => e = .returned (.int .u32 (rr 524288 8192 x)) ∧ w = w' := by
  have H := Lib.hid h
  clear h
  go_enter Tryd.func40, Tryd.ntmps40
  go_wp2_with fail
  refine (rot19_any _ H.out _).mono ?_
  rintro e w' ⟨rfl, rfl⟩
  go_wp2_with fail
  go_ret
  exact ⟨rfl, rfl⟩

theorem or_rr22 (x : Int) (h : W32 x) : bits .or .u32 (x * 1024 % 4294967296) (x / 4194304) = rr 4194304 1024 x := by
  unfold W32 at h
  rw [bits_join .u32 32 (by decide) wraps_32 10 _ _ (by omega) (by omega) (by omega) (by omega) (by omega) (by omega)]
  unfold rr
  omega
set_option maxHeartbeats 400000 in
set_option maxRecDepth 100000 in
theorem rot22_any (x : Int) (h : W32 x) (w : World) :
    Calls Tryd.prog 42 #[.int .u32 x, .int .i64 (-22)] w fun e w' => e = .returned (.int .u32 (rr 4194304 1024 x)) ∧ w = w' := by
  have hs : bits .and .u64 (IntKind.u64.wrap (-22)) 31 = 10 := by decide
  have h0 := h.1
  have h1 := h.2
  have H := Lib.hid h
  clear h
  go_enter Tryd.func42, Tryd.ntmps42
  go_wp2
  go_ret
  exact ⟨congrArg (fun z => Ending.returned (.int .u32 z)) (or_rr22 x H.out), rfl⟩
set_option maxHeartbeats 400000 in
set_option maxRecDepth 100000 in
theorem right22_any (x : Int) (h : W32 x) (w : World) :
    Calls Tryd.prog 40 #[.int .u32 x, .int .i64 22] w fun e w' => e = .returned (.int .u32 (rr 4194304 1024 x)) ∧ w = w' := by
  have H := Lib.hid h
  clear h
  go_enter Tryd.func40, Tryd.ntmps40
  go_wp2_with fail
  refine (rot22_any _ H.out _).mono ?_
  rintro e w' ⟨rfl, rfl⟩
  go_wp2_with fail
  go_ret
  exact ⟨rfl, rfl⟩

theorem or_rr25 (x : Int) (h : W32 x) : bits .or .u32 (x * 128 % 4294967296) (x / 33554432) = rr 33554432 128 x := by
  unfold W32 at h
  rw [bits_join .u32 32 (by decide) wraps_32 7 _ _ (by omega) (by omega) (by omega) (by omega) (by omega) (by omega)]
  unfold rr
  omega
set_option maxHeartbeats 400000 in
set_option maxRecDepth 100000 in
theorem rot25_any (x : Int) (h : W32 x) (w : World) :
    Calls Tryd.prog 42 #[.int .u32 x, .int .i64 (-25)] w fun e w' => e = .returned (.int .u32 (rr 33554432 128 x)) ∧ w = w' := by
  have hs : bits .and .u64 (IntKind.u64.wrap (-25)) 31 = 7 := by decide
  have h0 := h.1
  have h1 := h.2
  have H := Lib.hid h
  clear h
  go_enter Tryd.func42, Tryd.ntmps42
  go_wp2
  go_ret
  exact ⟨congrArg (fun z => Ending.returned (.int .u32 z)) (or_rr25 x H.out), rfl⟩
set_option maxHeartbeats 400000 in
set_option maxRecDepth 100000 in
theorem right25_any (x : Int) (h : W32 x) (w : World) :
    Calls Tryd.prog 40 #[.int .u32 x, .int .i64 25] w fun e w' => e = .returned (.int .u32 (rr 33554432 128 x)) ∧ w = w' := by
  have H := Lib.hid h
  clear h
  go_enter Tryd.func40, Tryd.ntmps40
  go_wp2_with fail
  refine (rot25_any _ H.out _).mono ?_
  rintro e w' ⟨rfl, rfl⟩
  go_wp2_with fail
  go_ret
  exact ⟨rfl, rfl⟩

end Go.Proofs.YtkokbpifjpmhlaaDoor
