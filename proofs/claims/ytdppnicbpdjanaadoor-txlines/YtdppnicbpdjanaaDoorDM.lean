/- Walks: bits.RotateLeft32, sha.right, sha.start, sha.step; the reference's right. -/
import Derived.Test.YtdppnicbpdjanaaDoorRows
import Derived.Test.YtdppnicbpdjanaaDoorArrIn
import Derived.WalkKit
import Derived.WalkSpells
import Derived.WalkLawsBesides
import Derived.Deep.LoopGhost
import Derived.Lib.Hide
import Derived.Deep.QuietTactic
import Derived.BigQuiet
import Derived.Deep.RegionWith
import Derived.Deep.RegionHeld3
import Derived.IntWalk
import Derived.StillTailTactics
import Derived.Test.YtdppnicbpdjanaaDoorLaid
import Derived.Laws.MakeOwn
namespace Go.Proofs.YtdppnicbpdjanaaDoor
set_option linter.unusedSimpArgs false
set_option linter.unusedVariables false
open Go.RowKit

/-- A word. -/
def W32 (x : Int) : Prop := 0 ≤ x ∧ x < 4294967296
/-- x turned right: a is 2^n, b is 2^(32-n). -/
def rr (a b x : Int) : Int := x / a + x % a * b
theorem wraps_32 (n : Int) (h0 : 0 ≤ n) (h1 : n < 2 ^ 32) : IntKind.u32.wrap n = n := by rw [IntKind.wrap_u32]; omega

theorem or_rr2 (x : Int) (h : W32 x) : bits .or .u32 (x * 1073741824 % 4294967296) (x / 4) = rr 4 1073741824 x := by
  unfold W32 at h
  rw [bits_join .u32 32 (by decide) wraps_32 30 _ _ (by omega) (by omega) (by omega) (by omega) (by omega) (by omega)]
  unfold rr
  omega
set_option maxHeartbeats 400000 in
set_option maxRecDepth 100000 in
theorem rot2_any (x : Int) (h : W32 x) (w : World) :
    Calls Tryd.prog 49 #[.int .u32 x, .int .i64 (-2)] w fun e w' => e = .returned (.int .u32 (rr 4 1073741824 x)) ∧ w = w' := by
  have hs : bits .and .u64 (IntKind.u64.wrap (-2)) 31 = 30 := by decide
  have h0 := h.1
  have h1 := h.2
  have H := Lib.hid h
  clear h
  go_enter Tryd.func49, Tryd.ntmps49
  go_wp2
  go_ret
  exact ⟨congrArg (fun z => Ending.returned (.int .u32 z)) (or_rr2 x H.out), rfl⟩
set_option maxHeartbeats 400000 in
set_option maxRecDepth 100000 in
theorem right2_any (x : Int) (h : W32 x) (w : World) :
    Calls Tryd.prog 48 #[.int .u32 x, .int .i64 2] w fun e w' => e = .returned (.int .u32 (rr 4 1073741824 x)) ∧ w = w' := by
  have H := Lib.hid h
  clear h
  go_enter Tryd.func48, Tryd.ntmps48
  go_wp2_with fail
  refine (rot2_any _ H.out _).mono ?_
  rintro e w' ⟨rfl, rfl⟩
  go_wp2_with fail
  go_ret
  exact ⟨rfl, rfl⟩

theorem or_rr6 (x : Int) (h : W32 x) : bits .or .u32 (x * 67108864 % 4294967296) (x / 64) = rr 64 67108864 x := by
  unfold W32 at h
  rw [bits_join .u32 32 (by decide) wraps_32 26 _ _ (by omega) (by omega) (by omega) (by omega) (by omega) (by omega)]
  unfold rr
  omega
set_option maxHeartbeats 400000 in
set_option maxRecDepth 100000 in
theorem rot6_any (x : Int) (h : W32 x) (w : World) :
    Calls Tryd.prog 49 #[.int .u32 x, .int .i64 (-6)] w fun e w' => e = .returned (.int .u32 (rr 64 67108864 x)) ∧ w = w' := by
  have hs : bits .and .u64 (IntKind.u64.wrap (-6)) 31 = 26 := by decide
  have h0 := h.1
  have h1 := h.2
  have H := Lib.hid h
  clear h
  go_enter Tryd.func49, Tryd.ntmps49
  go_wp2
  go_ret
  exact ⟨congrArg (fun z => Ending.returned (.int .u32 z)) (or_rr6 x H.out), rfl⟩
set_option maxHeartbeats 400000 in
set_option maxRecDepth 100000 in
theorem right6_any (x : Int) (h : W32 x) (w : World) :
    Calls Tryd.prog 48 #[.int .u32 x, .int .i64 6] w fun e w' => e = .returned (.int .u32 (rr 64 67108864 x)) ∧ w = w' := by
  have H := Lib.hid h
  clear h
  go_enter Tryd.func48, Tryd.ntmps48
  go_wp2_with fail
  refine (rot6_any _ H.out _).mono ?_
  rintro e w' ⟨rfl, rfl⟩
  go_wp2_with fail
  go_ret
  exact ⟨rfl, rfl⟩

theorem or_rr7 (x : Int) (h : W32 x) : bits .or .u32 (x * 33554432 % 4294967296) (x / 128) = rr 128 33554432 x := by
  unfold W32 at h
  rw [bits_join .u32 32 (by decide) wraps_32 25 _ _ (by omega) (by omega) (by omega) (by omega) (by omega) (by omega)]
  unfold rr
  omega
set_option maxHeartbeats 400000 in
set_option maxRecDepth 100000 in
theorem rot7_any (x : Int) (h : W32 x) (w : World) :
    Calls Tryd.prog 49 #[.int .u32 x, .int .i64 (-7)] w fun e w' => e = .returned (.int .u32 (rr 128 33554432 x)) ∧ w = w' := by
  have hs : bits .and .u64 (IntKind.u64.wrap (-7)) 31 = 25 := by decide
  have h0 := h.1
  have h1 := h.2
  have H := Lib.hid h
  clear h
  go_enter Tryd.func49, Tryd.ntmps49
  go_wp2
  go_ret
  exact ⟨congrArg (fun z => Ending.returned (.int .u32 z)) (or_rr7 x H.out), rfl⟩
set_option maxHeartbeats 400000 in
set_option maxRecDepth 100000 in
theorem right7_any (x : Int) (h : W32 x) (w : World) :
    Calls Tryd.prog 48 #[.int .u32 x, .int .i64 7] w fun e w' => e = .returned (.int .u32 (rr 128 33554432 x)) ∧ w = w' := by
  have H := Lib.hid h
  clear h
  go_enter Tryd.func48, Tryd.ntmps48
  go_wp2_with fail
  refine (rot7_any _ H.out _).mono ?_
  rintro e w' ⟨rfl, rfl⟩
  go_wp2_with fail
  go_ret
  exact ⟨rfl, rfl⟩

theorem or_rr11 (x : Int) (h : W32 x) : bits .or .u32 (x * 2097152 % 4294967296) (x / 2048) = rr 2048 2097152 x := by
  unfold W32 at h
  rw [bits_join .u32 32 (by decide) wraps_32 21 _ _ (by omega) (by omega) (by omega) (by omega) (by omega) (by omega)]
  unfold rr
  omega
set_option maxHeartbeats 400000 in
set_option maxRecDepth 100000 in
theorem rot11_any (x : Int) (h : W32 x) (w : World) :
    Calls Tryd.prog 49 #[.int .u32 x, .int .i64 (-11)] w fun e w' => e = .returned (.int .u32 (rr 2048 2097152 x)) ∧ w = w' := by
  have hs : bits .and .u64 (IntKind.u64.wrap (-11)) 31 = 21 := by decide
  have h0 := h.1
  have h1 := h.2
  have H := Lib.hid h
  clear h
  go_enter Tryd.func49, Tryd.ntmps49
  go_wp2
  go_ret
  exact ⟨congrArg (fun z => Ending.returned (.int .u32 z)) (or_rr11 x H.out), rfl⟩
set_option maxHeartbeats 400000 in
set_option maxRecDepth 100000 in
theorem right11_any (x : Int) (h : W32 x) (w : World) :
    Calls Tryd.prog 48 #[.int .u32 x, .int .i64 11] w fun e w' => e = .returned (.int .u32 (rr 2048 2097152 x)) ∧ w = w' := by
  have H := Lib.hid h
  clear h
  go_enter Tryd.func48, Tryd.ntmps48
  go_wp2_with fail
  refine (rot11_any _ H.out _).mono ?_
  rintro e w' ⟨rfl, rfl⟩
  go_wp2_with fail
  go_ret
  exact ⟨rfl, rfl⟩

theorem or_rr13 (x : Int) (h : W32 x) : bits .or .u32 (x * 524288 % 4294967296) (x / 8192) = rr 8192 524288 x := by
  unfold W32 at h
  rw [bits_join .u32 32 (by decide) wraps_32 19 _ _ (by omega) (by omega) (by omega) (by omega) (by omega) (by omega)]
  unfold rr
  omega
set_option maxHeartbeats 400000 in
set_option maxRecDepth 100000 in
theorem rot13_any (x : Int) (h : W32 x) (w : World) :
    Calls Tryd.prog 49 #[.int .u32 x, .int .i64 (-13)] w fun e w' => e = .returned (.int .u32 (rr 8192 524288 x)) ∧ w = w' := by
  have hs : bits .and .u64 (IntKind.u64.wrap (-13)) 31 = 19 := by decide
  have h0 := h.1
  have h1 := h.2
  have H := Lib.hid h
  clear h
  go_enter Tryd.func49, Tryd.ntmps49
  go_wp2
  go_ret
  exact ⟨congrArg (fun z => Ending.returned (.int .u32 z)) (or_rr13 x H.out), rfl⟩
set_option maxHeartbeats 400000 in
set_option maxRecDepth 100000 in
theorem right13_any (x : Int) (h : W32 x) (w : World) :
    Calls Tryd.prog 48 #[.int .u32 x, .int .i64 13] w fun e w' => e = .returned (.int .u32 (rr 8192 524288 x)) ∧ w = w' := by
  have H := Lib.hid h
  clear h
  go_enter Tryd.func48, Tryd.ntmps48
  go_wp2_with fail
  refine (rot13_any _ H.out _).mono ?_
  rintro e w' ⟨rfl, rfl⟩
  go_wp2_with fail
  go_ret
  exact ⟨rfl, rfl⟩

theorem or_rr17 (x : Int) (h : W32 x) : bits .or .u32 (x * 32768 % 4294967296) (x / 131072) = rr 131072 32768 x := by
  unfold W32 at h
  rw [bits_join .u32 32 (by decide) wraps_32 15 _ _ (by omega) (by omega) (by omega) (by omega) (by omega) (by omega)]
  unfold rr
  omega
set_option maxHeartbeats 400000 in
set_option maxRecDepth 100000 in
theorem rot17_any (x : Int) (h : W32 x) (w : World) :
    Calls Tryd.prog 49 #[.int .u32 x, .int .i64 (-17)] w fun e w' => e = .returned (.int .u32 (rr 131072 32768 x)) ∧ w = w' := by
  have hs : bits .and .u64 (IntKind.u64.wrap (-17)) 31 = 15 := by decide
  have h0 := h.1
  have h1 := h.2
  have H := Lib.hid h
  clear h
  go_enter Tryd.func49, Tryd.ntmps49
  go_wp2
  go_ret
  exact ⟨congrArg (fun z => Ending.returned (.int .u32 z)) (or_rr17 x H.out), rfl⟩
set_option maxHeartbeats 400000 in
set_option maxRecDepth 100000 in
theorem right17_any (x : Int) (h : W32 x) (w : World) :
    Calls Tryd.prog 48 #[.int .u32 x, .int .i64 17] w fun e w' => e = .returned (.int .u32 (rr 131072 32768 x)) ∧ w = w' := by
  have H := Lib.hid h
  clear h
  go_enter Tryd.func48, Tryd.ntmps48
  go_wp2_with fail
  refine (rot17_any _ H.out _).mono ?_
  rintro e w' ⟨rfl, rfl⟩
  go_wp2_with fail
  go_ret
  exact ⟨rfl, rfl⟩

theorem or_rr18 (x : Int) (h : W32 x) : bits .or .u32 (x * 16384 % 4294967296) (x / 262144) = rr 262144 16384 x := by
  unfold W32 at h
  rw [bits_join .u32 32 (by decide) wraps_32 14 _ _ (by omega) (by omega) (by omega) (by omega) (by omega) (by omega)]
  unfold rr
  omega
set_option maxHeartbeats 400000 in
set_option maxRecDepth 100000 in
theorem rot18_any (x : Int) (h : W32 x) (w : World) :
    Calls Tryd.prog 49 #[.int .u32 x, .int .i64 (-18)] w fun e w' => e = .returned (.int .u32 (rr 262144 16384 x)) ∧ w = w' := by
  have hs : bits .and .u64 (IntKind.u64.wrap (-18)) 31 = 14 := by decide
  have h0 := h.1
  have h1 := h.2
  have H := Lib.hid h
  clear h
  go_enter Tryd.func49, Tryd.ntmps49
  go_wp2
  go_ret
  exact ⟨congrArg (fun z => Ending.returned (.int .u32 z)) (or_rr18 x H.out), rfl⟩
set_option maxHeartbeats 400000 in
set_option maxRecDepth 100000 in
theorem right18_any (x : Int) (h : W32 x) (w : World) :
    Calls Tryd.prog 48 #[.int .u32 x, .int .i64 18] w fun e w' => e = .returned (.int .u32 (rr 262144 16384 x)) ∧ w = w' := by
  have H := Lib.hid h
  clear h
  go_enter Tryd.func48, Tryd.ntmps48
  go_wp2_with fail
  refine (rot18_any _ H.out _).mono ?_
  rintro e w' ⟨rfl, rfl⟩
  go_wp2_with fail
  go_ret
  exact ⟨rfl, rfl⟩

theorem or_rr19 (x : Int) (h : W32 x) : bits .or .u32 (x * 8192 % 4294967296) (x / 524288) = rr 524288 8192 x := by
  unfold W32 at h
  rw [bits_join .u32 32 (by decide) wraps_32 13 _ _ (by omega) (by omega) (by omega) (by omega) (by omega) (by omega)]
  unfold rr
  omega
set_option maxHeartbeats 400000 in
set_option maxRecDepth 100000 in
theorem rot19_any (x : Int) (h : W32 x) (w : World) :
    Calls Tryd.prog 49 #[.int .u32 x, .int .i64 (-19)] w fun e w' => e = .returned (.int .u32 (rr 524288 8192 x)) ∧ w = w' := by
  have hs : bits .and .u64 (IntKind.u64.wrap (-19)) 31 = 13 := by decide
  have h0 := h.1
  have h1 := h.2
  have H := Lib.hid h
  clear h
  go_enter Tryd.func49, Tryd.ntmps49
  go_wp2
  go_ret
  exact ⟨congrArg (fun z => Ending.returned (.int .u32 z)) (or_rr19 x H.out), rfl⟩
set_option maxHeartbeats 400000 in
set_option maxRecDepth 100000 in
theorem right19_any (x : Int) (h : W32 x) (w : World) :
    Calls Tryd.prog 48 #[.int .u32 x, .int .i64 19] w fun e w' => e = .returned (.int .u32 (rr 524288 8192 x)) ∧ w = w' := by
  have H := Lib.hid h
  clear h
  go_enter Tryd.func48, Tryd.ntmps48
  go_wp2_with fail
  refine (rot19_any _ H.out _).mono ?_
  rintro e w' ⟨rfl, rfl⟩
  go_wp2_with fail
  go_ret
  exact ⟨rfl, rfl⟩

theorem or_rr22 (x : Int) (h : W32 x) : bits .or .u32 (x * 1024 % 4294967296) (x / 4194304) = rr 4194304 1024 x := by
  unfold W32 at h
  rw [bits_join .u32 32 (by decide) wraps_32 10 _ _ (by omega) (by omega) (by omega) (by omega) (by omega) (by omega)]
  unfold rr
  omega
set_option maxHeartbeats 400000 in
set_option maxRecDepth 100000 in
theorem rot22_any (x : Int) (h : W32 x) (w : World) :
    Calls Tryd.prog 49 #[.int .u32 x, .int .i64 (-22)] w fun e w' => e = .returned (.int .u32 (rr 4194304 1024 x)) ∧ w = w' := by
  have hs : bits .and .u64 (IntKind.u64.wrap (-22)) 31 = 10 := by decide
  have h0 := h.1
  have h1 := h.2
  have H := Lib.hid h
  clear h
  go_enter Tryd.func49, Tryd.ntmps49
  go_wp2
  go_ret
  exact ⟨congrArg (fun z => Ending.returned (.int .u32 z)) (or_rr22 x H.out), rfl⟩
set_option maxHeartbeats 400000 in
set_option maxRecDepth 100000 in
theorem right22_any (x : Int) (h : W32 x) (w : World) :
    Calls Tryd.prog 48 #[.int .u32 x, .int .i64 22] w fun e w' => e = .returned (.int .u32 (rr 4194304 1024 x)) ∧ w = w' := by
  have H := Lib.hid h
  clear h
  go_enter Tryd.func48, Tryd.ntmps48
  go_wp2_with fail
  refine (rot22_any _ H.out _).mono ?_
  rintro e w' ⟨rfl, rfl⟩
  go_wp2_with fail
  go_ret
  exact ⟨rfl, rfl⟩

theorem or_rr25 (x : Int) (h : W32 x) : bits .or .u32 (x * 128 % 4294967296) (x / 33554432) = rr 33554432 128 x := by
  unfold W32 at h
  rw [bits_join .u32 32 (by decide) wraps_32 7 _ _ (by omega) (by omega) (by omega) (by omega) (by omega) (by omega)]
  unfold rr
  omega
set_option maxHeartbeats 400000 in
set_option maxRecDepth 100000 in
theorem rot25_any (x : Int) (h : W32 x) (w : World) :
    Calls Tryd.prog 49 #[.int .u32 x, .int .i64 (-25)] w fun e w' => e = .returned (.int .u32 (rr 33554432 128 x)) ∧ w = w' := by
  have hs : bits .and .u64 (IntKind.u64.wrap (-25)) 31 = 7 := by decide
  have h0 := h.1
  have h1 := h.2
  have H := Lib.hid h
  clear h
  go_enter Tryd.func49, Tryd.ntmps49
  go_wp2
  go_ret
  exact ⟨congrArg (fun z => Ending.returned (.int .u32 z)) (or_rr25 x H.out), rfl⟩
set_option maxHeartbeats 400000 in
set_option maxRecDepth 100000 in
theorem right25_any (x : Int) (h : W32 x) (w : World) :
    Calls Tryd.prog 48 #[.int .u32 x, .int .i64 25] w fun e w' => e = .returned (.int .u32 (rr 33554432 128 x)) ∧ w = w' := by
  have H := Lib.hid h
  clear h
  go_enter Tryd.func48, Tryd.ntmps48
  go_wp2_with fail
  refine (rot25_any _ H.out _).mono ?_
  rintro e w' ⟨rfl, rfl⟩
  go_wp2_with fail
  go_ret
  exact ⟨rfl, rfl⟩

end Go.Proofs.YtdppnicbpdjanaaDoor

namespace Go.Proofs.YtdppnicbpdjanaaDoor
set_option linter.unusedSimpArgs false
set_option linter.unusedVariables false
open Go.RowKit

def us (l : List Int) : List Value := l.map (Value.int .u32)
theorem us_len (l : List Int) : (us l).length = l.length := by simp [us]
theorem us_one (l : List Int) : ∀ u ∈ us l, u.oneCell' = true := by
  intro u hu
  simp only [us, List.mem_map] at hu
  obtain ⟨c, _, rfl⟩ := hu
  rfl
theorem us_get (l : List Int) (k : Nat) (h : k < l.length) : (us l)[k]? = some (.int .u32 (l.getD k 0)) := by
  simp [us, h, List.getD]
def Z8 : Array Value := (us (List.replicate 8 0)).toArray
theorem Tryd.zero73 : (Tryd.prog.info? 73).map (·.zero) = some (some (.agg Z8)) := by kernel_rfl
theorem Tryd.size73 : (Tryd.prog.info? 73).map (·.size) = some 8 := by kernel_rfl
theorem Tryd.size24 : (Tryd.prog.info? 24).map (·.size) = some 1 := by kernel_rfl

theorem results_arr {P : Program} {fn : Func} {p : Tmp} {ty : TypeId} (h : fn.results = #[.cell p ty]) (tmps : Array Value) (w : World) (b : Nat) (cs : List Value) (d : TypeDesc)
    (hp : tmps.getD p undef = .pointer (some ⟨b, 0, none⟩)) (hc : w.rangeAt b 0 cs) (hu : P.underlying ty = some d) (hd : d.isRow = true) (hi : (P.info? ty).map (·.size) = some cs.length) :
    (results fn tmps).run P w = .ok (.agg cs.toArray) w := by
  have hp' : tmps[p]?.getD undef = .pointer (some ⟨b, 0, none⟩) := by rw [← hp]; simp [Array.getD_eq_getD_getElem?]
  simp only [results, h]
  simp [Sem.run_bind, hp', asAddr, run_loadVar_mid w b 0 ty cs d hc hu hd hi]

def S0 : List Int := [0x6a09e667, 0xbb67ae85, 0x3c6ef372, 0xa54ff53a, 0x510e527f, 0x9b05688c, 0x1f83d9ab, 0x5be0cd19]
def A0 : Array Value := (us S0).toArray

set_option maxHeartbeats 400000 in
set_option maxRecDepth 100000 in
theorem start_any (w : World) :
    Calls Tryd.prog 26 #[] w fun e w' => e = .returned (.agg (us S0).toArray) ∧ Below w.heap.size w w' := by
  have HT := Lib.hid (there_new w Z8 73 A0.size rfl)
  have hbel : Below w.heap.size w (w.alloc (.cells Z8 73)) := (Below.refl _ _).alloc (Nat.le_refl _) _
  go_enter Tryd.func26, Tryd.ntmps26
  go_wp2_with (first
    | (refine wpList_of_wp rfl fun K hK => wp_alloc_arr 73 rfl Z8 Tryd.zero73 (hK _ _ ?_))
    | (refine wpList_of_wp rfl fun K hK => wp_build_arr 73 _ rfl 8 24 Z8 A0 Tryd.underlying73 Tryd.zero73 Tryd.size24 (by kernel_rfl) (hK _ _ ?_))
    | (refine wpList_store_mid rfl 73 (.tmp 0) (.tmp 1) rfl w.heap.size 0 A0 rfl rfl HT.out Tryd.size73 (by kernel_rfl) ?_))
  exact bodyPost_ret (results_arr rfl _ _ w.heap.size (us S0) _ rfl (World.rangeAt_setCells_same _ _ _ _ HT.out) Tryd.underlying73 rfl Tryd.size73) rfl ⟨rfl, Below.setCells' hbel _ _ (Nat.le_refl _) _⟩

/-- One step. -/
def sg1 (e : Int) : Int := bits .xor .u32 (bits .xor .u32 (rr 64 67108864 e) (rr 2048 2097152 e)) (rr 33554432 128 e)
def sg0 (a : Int) : Int := bits .xor .u32 (bits .xor .u32 (rr 4 1073741824 a) (rr 8192 524288 a)) (rr 4194304 1024 a)
def chs (e f g : Int) : Int := bits .xor .u32 (bits .and .u32 e f) (bits .and .u32 (bits .xor .u32 IntKind.u32.max e) g)
def maj (a b c : Int) : Int := bits .xor .u32 (bits .xor .u32 (bits .and .u32 a b) (bits .and .u32 a c)) (bits .and .u32 b c)
def tx (e f g h x : Int) : Int := (h + sg1 e + chs e f g + x) % 4294967296
def ux (a b c : Int) : Int := (sg0 a + maj a b c) % 4294967296
def st8 (a b c d e f g h x : Int) : List Int := [(tx e f g h x + ux a b c) % 4294967296, a, b, c, (d + tx e f g h x) % 4294967296, e, f, g]

set_option maxHeartbeats 1000000 in
set_option maxRecDepth 100000 in
theorem step_any (a b c d e f g h x : Int) (ha : W32 a) (hb : W32 b) (hc : W32 c) (hd : W32 d) (he : W32 e) (hf : W32 f) (hg : W32 g) (hh : W32 h) (hx : W32 x) (w : World) :
    Calls Tryd.prog 46 #[.agg (us [a, b, c, d, e, f, g, h]).toArray, .int .u32 x] w fun ee w' => ee = .returned (.agg (us (st8 a b c d e f g h x)).toArray) ∧ Below w.heap.size w w' := by
  have HE := Lib.hid he
  have HA := Lib.hid ha
  clear he ha
  obtain ⟨hb0, hb1⟩ := hb
  obtain ⟨hc0, hc1⟩ := hc
  obtain ⟨hd0, hd1⟩ := hd
  obtain ⟨hf0, hf1⟩ := hf
  obtain ⟨hg0, hg1⟩ := hg
  obtain ⟨hh0, hh1⟩ := hh
  obtain ⟨hx0, hx1⟩ := hx
  simp only [us, List.map]
  have HT := Lib.hid (show ∀ (C : Array Value) nq, (((w.alloc (.cells C 73)).alloc (.cells Z8 73)).drewN nq).there (w.heap.size + 1) 0 8 from fun C nq => by
    have := there_new (w.alloc (.cells C 73)) Z8 73 8 rfl
    simp at this
    exact this)
  have HBL := Lib.hid (show ∀ (C : Array Value) nq, Below w.heap.size w (((w.alloc (.cells C 73)).alloc (.cells Z8 73)).drewN nq) from fun C nq => by
    have h1 : Below w.heap.size w (w.alloc (.cells C 73)) := (Below.refl _ _).alloc (Nat.le_refl _) _
    have := h1.alloc (by simp) (.cells Z8 73)
    exact ⟨this.os, this.tape, this.output, this.size, this.block⟩)
  go_enter Tryd.func46, Tryd.ntmps46
  go_wp2_with (refine wpList_of_wp rfl fun K hK => wp_alloc_arr 73 rfl Z8 Tryd.zero73 (hK _ _ ?_))
  go_quiet (fail)
  go_wp2_with fail
  refine (right6_any _ HE.out _).mono ?_
  rintro ee w' ⟨rfl, rfl⟩
  go_wp2_with fail
  refine (right11_any _ HE.out _).mono ?_
  rintro ee w' ⟨rfl, rfl⟩
  go_wp2_with fail
  refine (right25_any _ HE.out _).mono ?_
  rintro ee w' ⟨rfl, rfl⟩
  go_wp2_with fail
  refine (right2_any _ HA.out _).mono ?_
  rintro ee w' ⟨rfl, rfl⟩
  go_wp2_with fail
  refine (right13_any _ HA.out _).mono ?_
  rintro ee w' ⟨rfl, rfl⟩
  go_wp2_with fail
  refine (right22_any _ HA.out _).mono ?_
  rintro ee w' ⟨rfl, rfl⟩
  go_wp2_with (refine wpList_store_mid rfl 73 (.tmp 4) (.tmp 84) rfl (w.heap.size + 1) 0 _ rfl rfl (HT.out _ _) Tryd.size73 (by kernel_rfl) ?_)
  exact bodyPost_ret (results_arr rfl _ _ (w.heap.size + 1) _ _ rfl (World.rangeAt_setCells_same _ _ _ _ (HT.out _ _)) Tryd.underlying73 rfl Tryd.size73) rfl ⟨by
    unfold st8 tx ux sg0 sg1 chs maj
    simp only [List.map, Int.emod_add_emod, Int.add_emod_emod], Below.setCells' (HBL.out _ _) _ _ (by omega) _⟩
end Go.Proofs.YtdppnicbpdjanaaDoor

namespace Go.Proofs.YtdppnicbpdjanaaDoor
set_option linter.unusedSimpArgs false
set_option linter.unusedVariables false
open Go.RowKit

/-- The first j bytes of word i. -/
def prt (bs : List Nat) (i : Nat) : Nat → Nat
  | 0 => 0
  | j + 1 => prt bs i j * 256 + bs.getD (4 * i + j) 0
def be4 (bs : List Nat) (i : Nat) : Int := ((prt bs i 4 : Nat) : Int)
def ws16 (bs : List Nat) : List Int := (List.range 16).map (be4 bs)
def pw (x : Int) : Int := bits .xor .u32 (bits .xor .u32 (rr 128 33554432 x) (rr 262144 16384 x)) (x / 8)
def qw (x : Int) : Int := bits .xor .u32 (bits .xor .u32 (rr 131072 32768 x) (rr 524288 8192 x)) (x / 1024)
/-- The next word. -/
def nw (l : List Int) : Int := (l.getD (l.length - 16) 0 + pw (l.getD (l.length - 15) 0) + l.getD (l.length - 7) 0 + qw (l.getD (l.length - 2) 0)) % 4294967296
def ext (l : List Int) : Nat → List Int
  | 0 => l
  | k + 1 => ext l k ++ [nw (ext l k)]
def spr (bs : List Nat) : List Int := ext (ws16 bs) 48
theorem ws16_len (bs : List Nat) : (ws16 bs).length = 16 := by simp [ws16]
theorem ext_len (l : List Int) (k : Nat) : (ext l k).length = l.length + k := by
  induction k with
  | zero => rfl
  | succ k ih => simp [ext, ih]; omega
theorem prt_lt (bs : List Nat) (hb : ∀ c ∈ bs, c < 256) (i : Nat) : ∀ j, prt bs i j < 256 ^ j
  | 0 => by simp [prt]
  | j + 1 => by
    have := prt_lt bs hb i j
    have := getD_lt hb (4 * i + j)
    unfold prt
    rw [Nat.pow_succ]
    omega
theorem be4_w (bs : List Nat) (hb : ∀ c ∈ bs, c < 256) (i : Nat) : W32 (be4 bs i) := by
  have := prt_lt bs hb i 4
  unfold W32 be4
  omega
theorem nw_w (l : List Int) : W32 (nw l) := by unfold W32 nw; omega
theorem getD_w (l : List Int) (h : ∀ x ∈ l, W32 x) (i : Nat) : W32 (l.getD i 0) := by
  by_cases hi : i < l.length
  · rw [List.getD_eq_getElem?_getD, List.getElem?_eq_getElem hi]; exact h _ (List.getElem_mem hi)
  · rw [List.getD_eq_getElem?_getD, List.getElem?_eq_none (by omega)]; simp [W32]
theorem ws16_w (bs : List Nat) (hb : ∀ c ∈ bs, c < 256) : ∀ x ∈ ws16 bs, W32 x := by
  intro x hx
  simp [ws16] at hx
  obtain ⟨i, _, rfl⟩ := hx
  exact be4_w bs hb i
theorem ext_w (l : List Int) (h : ∀ x ∈ l, W32 x) (k : Nat) : ∀ x ∈ ext l k, W32 x := by
  induction k with
  | zero => exact h
  | succ k ih =>
    intro x hx
    simp [ext] at hx
    rcases hx with hx | rfl
    · exact ih x hx
    · exact nw_w _
theorem spr_w (bs : List Nat) (hb : ∀ c ∈ bs, c < 256) : ∀ x ∈ spr bs, W32 x := ext_w _ (ws16_w bs hb) 48
theorem spr_len (bs : List Nat) : (spr bs).length = 64 := by unfold spr; rw [ext_len, ws16_len]

/-- The array behind i words and j bytes of the next. -/
def P1 (bs : List Nat) (i j : Nat) : List Int := (List.range i).map (be4 bs) ++ ((prt bs i j : Nat) : Int) :: List.replicate (63 - i) 0
def P2 (bs : List Nat) (k : Nat) : List Int := ext (ws16 bs) k ++ List.replicate (48 - k) 0
theorem P1_len (bs : List Nat) (i j : Nat) (hi : i ≤ 63) : (P1 bs i j).length = 64 := by simp [P1]; omega
theorem P2_len (bs : List Nat) (k : Nat) (hk : k ≤ 48) : (P2 bs k).length = 64 := by simp [P2, ext_len, ws16_len]; omega
theorem P1_at (bs : List Nat) (i j : Nat) : (us (P1 bs i j))[i]? = some (.int .u32 ((prt bs i j : Nat) : Int)) := by
  simp [us, P1, List.getElem?_append]
theorem P1_set (bs : List Nat) (i j : Nat) (v : Int) : (us (P1 bs i j)).set i (.int .u32 v) = us ((List.range i).map (be4 bs) ++ v :: List.replicate (63 - i) 0) := by
  unfold us P1
  rw [← List.map_set, List.set_append, if_neg (by simp)]
  simp
theorem P1_next (bs : List Nat) (i : Nat) (hi : i < 16) : P1 bs (i + 1) 0 = P1 bs i 4 := by
  unfold P1
  rw [List.range_succ, List.map_append, show 63 - i = 63 - (i + 1) + 1 by omega, List.replicate_succ]
  simp [be4, prt]
theorem P2_zero (bs : List Nat) : P1 bs 16 0 = P2 bs 0 := by
  unfold P1 P2 ext ws16
  simp [prt]
theorem P2_at (bs : List Nat) (k i : Nat) (hi : i < 16 + k) : (us (P2 bs k))[i]? = some (.int .u32 ((ext (ws16 bs) k).getD i 0)) := by
  have hl : i < (ext (ws16 bs) k).length := by rw [ext_len, ws16_len]; exact hi
  simp [us, P2, List.getElem?_append, hl, List.getD]
theorem P2_there (bs : List Nat) (k : Nat) (hk : k < 48) : (us (P2 bs k))[16 + k]? = some (.int .u32 0) := by
  have hl : (ext (ws16 bs) k).length = 16 + k := by rw [ext_len, ws16_len]
  simp [us, P2, List.getElem?_append, hl, List.getElem?_replicate]; omega
theorem P2_set (bs : List Nat) (k : Nat) (hk : k < 48) : (us (P2 bs k)).set (16 + k) (.int .u32 (nw (ext (ws16 bs) k))) = us (P2 bs (k + 1)) := by
  have hl : (ext (ws16 bs) k).length = 16 + k := by rw [ext_len, ws16_len]
  unfold us P2
  rw [← List.map_set, List.set_append, if_neg (by omega), hl, Nat.sub_self, show 48 - k = 48 - (k + 1) + 1 by omega, List.replicate_succ]
  simp [ext]

theorem or_byte (x c : Nat) (hx : x < 16777216) (hc : c < 256) : bits .or .u32 ((x : Int) * 256) (c : Int) = ((x * 256 + c : Nat) : Int) := by
  rw [bits_join .u32 32 (by decide) wraps_32 8 _ _ (by omega) (by omega) (by omega) (by omega) (by omega) (by omega)]
  omega

def Z64 : Array Value := (us (List.replicate 64 0)).toArray
theorem Tryd.zero89 : (Tryd.prog.info? 89).map (·.zero) = some (some (.agg Z64)) := by kernel_rfl
theorem Tryd.size89 : (Tryd.prog.info? 89).map (·.size) = some 64 := by kernel_rfl

/-- The state of spread. -/
structure SpS (w wr : World) (L : List Int) : Prop where
  res : Blk wr w.heap.size 89 Z64
  arr : Blk wr (w.heap.size + 1) 89 (us L).toArray
  below : Below w.heap.size w wr
theorem SpS.drew {w wr : World} {L : List Int} (h : SpS w wr L) : SpS w wr.drew L := ⟨h.res, h.arr, ⟨h.below.os, h.below.tape, h.below.output, h.below.size, h.below.block⟩⟩
theorem SpS.drewN {w wr : World} {L : List Int} (h : SpS w wr L) (k : Nat) : SpS w (wr.drewN k) L := ⟨h.res, h.arr, ⟨h.below.os, h.below.tape, h.below.output, h.below.size, h.below.block⟩⟩
theorem SpS.set {w wr : World} {L L' : List Int} (h : SpS w wr L) (i : Nat) (v : Value) (e : (us L).set i v = us L') : SpS w (wr.setCell ⟨w.heap.size + 1, i, none⟩ v) L' :=
  ⟨h.res.other _ _ (by simp), by have := h.arr.set i v; rwa [List.setIfInBounds_toArray, e] at this, h.below.setCell (by simp) _⟩
theorem SpS.cell {w wr : World} {L : List Int} (h : SpS w wr L) (i : Nat) (u : Value) (e : (us L)[i]? = some u) : wr.cell? ⟨w.heap.size + 1, i, none⟩ = some u := by
  rw [cell_of_row wr _ _ _ _ _ h.arr]; simpa using e
theorem SpS.cold {w wr : World} {L : List Int} (h : SpS w wr L) (i : Nat) : wr.frozen? ⟨w.heap.size + 1, i, none⟩ = false := frozen_of_row wr _ _ _ _ h.arr

set_option maxHeartbeats 1000000 in
set_option maxRecDepth 100000 in
theorem spread_any (A : Option Addr) (c : Nat) (bs : List Nat) (w : World) (hr : Rd w w.heap.size A 64 (bys bs)) (hb : ∀ c ∈ bs, c < 256) :
    Calls Tryd.prog 45 #[.slice A 64 c] w fun e w' => e = .returned (.agg (us (spr bs)).toArray) ∧ Below w.heap.size w w' := by
  have hl : bs.length = 64 := by have := hr.1; rwa [bys_len] at this
  have HL := Lib.hid hl
  have HB := Lib.hid hb
  clear hl hb
  have hS0 : SpS w ((w.alloc (.cells Z64 89)).alloc (.cells Z64 89)) (P1 bs 0 0) :=
    ⟨heap_alloc2_old w _ _, heap_alloc2_new w _ _, ((Below.refl _ _).alloc (Nat.le_refl _) _).alloc (by simp) _⟩
  go_enter Tryd.func45, Tryd.ntmps45
  go_wp2_with (refine wpList_of_wp rfl fun K hK => wp_alloc_arr 89 rfl Z64 Tryd.zero89 (hK _ _ ?_))
  go_loopg [9] 16 (fun k i wr => ∃ j, k = 16 - j ∧ j ≤ 16 ∧ i = .int .i64 j ∧ SpS w wr (P1 bs j 0))
  case atStart => exact ⟨0, rfl, Nat.zero_le _, rfl, hS0⟩
  case round =>
    clear hS0
    obtain ⟨i, hk, hi, rfl, hS⟩ := hrel
    have hM := Lib.hid hk
    clear hk
    by_cases hlt : i < 16
    · have hlt' : (i : Int) < 16 := by omega
      go_wp2_with fail
      go_loopg [12] 4 (fun k v wr => ∃ j, k = 4 - j ∧ j ≤ 4 ∧ v = .int .i64 j ∧ SpS w wr (P1 bs i j))
      case atStart => exact ⟨0, rfl, Nat.zero_le _, rfl, hS⟩
      case round =>
        clear hS
        obtain ⟨j, hk, hj, rfl, hS⟩ := hrel
        have hM2 := Lib.hid hk
        clear hk
        by_cases hlj : j < 4
        · have hlj' : (j : Int) < 4 := by omega
          obtain ⟨g, off, u, rfl, hgB, hu, hcell⟩ := (hr.below hS.below).at_ (k := 4 * i + j) (by omega)
          rw [bys_get bs _ (by rw [HL.out]; omega)] at hu
          injection hu with hu
          subst hu
          have c1 := hS.cell i _ (P1_at bs i j)
          have c2 := hS.cold i
          have hcb := getD_lt HB.out (4 * i + j)
          have hpl := prt_lt bs HB.out i j
          have hpl : prt bs i j < 16777216 := by
            have : 256 ^ j ≤ 256 ^ 3 := Nat.pow_le_pow_right (by omega) (by omega)
            omega
          have hset := Lib.hid (P1_set bs i j ((prt bs i (j + 1) : Nat) : Int))
          have hps := Lib.hid (show prt bs i (j + 1) = prt bs i j * 256 + bs.getD (4 * i + j) 0 from rfl)
          have hor := or_byte (prt bs i j) (bs.getD (4 * i + j) 0) hpl hcb
          have hw1 : IntKind.i64.wrap (4 * (i : Int)) = 4 * (i : Int) := IntWalk.i64_in _ (by omega)
          have hw2 : IntKind.i64.wrap (4 * (i : Int) + (j : Int)) = 4 * (i : Int) + (j : Int) := IntWalk.i64_in _ (by omega)
          have hn2 : (4 * (i : Int) + (j : Int)).toNat = 4 * i + j := by omega
          have hn1 : 4 * (i : Int) + (j : Int) < 64 := by omega
          have hi64 : (i : Int) < 64 := by omega
          have hn0 : (0 : Int) ≤ 4 * (i : Int) + (j : Int) := by omega
          generalize bs.getD (4 * i + j) 0 = cc at *
          generalize hpp : prt bs i j = pp at *
          have HPP := Lib.hid hpp
          clear hpp
          go_wp2_with fail
          go_still_tail 14, (by kernel_rfl)
          go_wp2
          go_roundg (4 - (j + 1))
          case measure => have := hM2.out; omega
          case rel =>
            refine ⟨j + 1, rfl, by omega, by go_num, ?_⟩
            have := hS.set i (.int .u32 ((prt bs i (j + 1) : Nat) : Int)) hset.out
            rw [hps.out] at this
            have h2 := this.drew
            unfold P1
            rw [hps.out]
            simpa using h2
        · obtain rfl : j = 4 := by omega
          have hdec : decide (((4 : Nat) : Int) < 4) = false := by decide
          rw [← P1_next bs i hlt] at hS
          go_wp2_with fail
          go_roundg (16 - (i + 1))
          case measure => have := hM.out; omega
          case rel => exact ⟨i + 1, rfl, by omega, by go_num, hS⟩
    · obtain rfl : i = 16 := by omega
      have hdec : decide (((16 : Nat) : Int) < 16) = false := by decide
      rw [P2_zero] at hS
      go_wp2_with fail
      go_loopg [6] 48 (fun k v wr => ∃ j, k = 48 - j ∧ j ≤ 48 ∧ v = .int .i64 ((16 + j : Nat) : Int) ∧ SpS w wr (P2 bs j))
      case atStart => exact ⟨0, rfl, Nat.zero_le _, rfl, hS⟩
      case round =>
        clear hS
        obtain ⟨j, hk, hj, rfl, hS⟩ := hrel
        have hM2 := Lib.hid hk
        clear hk hdec
        by_cases hlj : j < 48
        · have hW := ext_w _ (ws16_w bs HB.out) j
          have hlen := Lib.hid (show (ext (ws16 bs) j).length = 16 + j by rw [ext_len, ws16_len])
          have c15 := hS.cell (16 + j - 15) _ (P2_at bs j _ (by omega))
          have c16 := hS.cell (16 + j - 16) _ (P2_at bs j _ (by omega))
          have c7 := hS.cell (16 + j - 7) _ (P2_at bs j _ (by omega))
          have c2 := hS.cell (16 + j - 2) _ (P2_at bs j _ (by omega))
          have c0 := hS.cell (16 + j) _ (P2_there bs j hlj)
          have cf := hS.cold (16 + j)
          have hnw := Lib.hid (show nw (ext (ws16 bs) j) = _ by unfold nw; rw [hlen.out])
          have hset := Lib.hid (P2_set bs j hlj)
          have w15 := Lib.hid (getD_w _ hW (16 + j - 15))
          have w2 := Lib.hid (getD_w _ hW (16 + j - 2))
          clear hW
          obtain ⟨t, ht⟩ : ∃ t, t = 16 + j := ⟨_, rfl⟩
          rw [← ht] at c15 c16 c7 c2 c0 cf ⊢
          have hnw := hnw.out
          have hset := hset.out
          have w15 := w15.out
          have w2 := w2.out
          rw [← ht] at hnw hset w15 w2
          generalize (ext (ws16 bs) j).getD (t - 15) 0 = x15 at *
          generalize (ext (ws16 bs) j).getD (t - 16) 0 = x16 at *
          generalize (ext (ws16 bs) j).getD (t - 7) 0 = x7 at *
          generalize (ext (ws16 bs) j).getD (t - 2) 0 = x2 at *
          have HNW := Lib.hid hnw
          have HSET := Lib.hid hset
          have H15 := Lib.hid w15
          have H2 := Lib.hid w2
          clear hnw hset w15 w2
          have t1 : (t : Int) < 64 := by omega
          have t2 : (16 : Int) ≤ (t : Int) := by omega
          have HT := Lib.hid ht
          clear ht
          have z1 := IntWalk.i64_in ((t : Int) - 15) (by omega)
          have z2 := IntWalk.i64_in ((t : Int) - 2) (by omega)
          have z3 := IntWalk.i64_in ((t : Int) - 16) (by omega)
          have z4 := IntWalk.i64_in ((t : Int) - 7) (by omega)
          have y1 : ((t : Int) - 15).toNat = t - 15 := by omega
          have y2 : ((t : Int) - 2).toNat = t - 2 := by omega
          have y3 : ((t : Int) - 16).toNat = t - 16 := by omega
          have y4 : ((t : Int) - 7).toNat = t - 7 := by omega
          have v1 : (0 : Int) ≤ (t : Int) - 15 := by omega
          have v2 : (0 : Int) ≤ (t : Int) - 2 := by omega
          have v3 : (0 : Int) ≤ (t : Int) - 16 := by omega
          have v4 : (0 : Int) ≤ (t : Int) - 7 := by omega
          have v5 : (t : Int) - 15 < 64 := by omega
          have v6 : (t : Int) - 2 < 64 := by omega
          have v7 : (t : Int) - 16 < 64 := by omega
          have v8 : (t : Int) - 7 < 64 := by omega
          have na15 : (15 : Int) ≤ (t : Int) := by omega
          have nb15 : 15 ≤ t := by omega
          have nc15 : (t : Int) < 79 := by omega
          have nd15 : t < 79 := by omega
          have na2 : (2 : Int) ≤ (t : Int) := by omega
          have nb2 : 2 ≤ t := by omega
          have nc2 : (t : Int) < 66 := by omega
          have nd2 : t < 66 := by omega
          have na7 : (7 : Int) ≤ (t : Int) := by omega
          have nb7 : 7 ≤ t := by omega
          have nc7 : (t : Int) < 71 := by omega
          have nd7 : t < 71 := by omega
          have na16 : (16 : Int) ≤ (t : Int) := by omega
          have nb16 : 16 ≤ t := by omega
          have nc16 : (t : Int) < 80 := by omega
          have nd16 : t < 80 := by omega
          have x15b := H15.out.1
          have x15c := H15.out.2
          have x2b := H2.out.1
          have x2c := H2.out.2
          go_wp2_with fail
          go_quiet ((go_at_call 48; first | (with_reducible exact quiet_same (right7_any _ H15.out _)) | (with_reducible exact quiet_same (right18_any _ H15.out _))))
          have hS2 := hS.drewN nq
          have c16' : (wr.drewN nq).cell? _ = _ := c16
          have c7' : (wr.drewN nq).cell? _ = _ := c7
          have c2' : (wr.drewN nq).cell? _ = _ := c2
          have c0' : (wr.drewN nq).cell? _ = _ := c0
          have cf' : (wr.drewN nq).frozen? _ = _ := cf
          clear c16 c7 c2 c0 cf hS c15
          generalize wr.drewN nq = wr2 at *
          go_wp2_with fail
          go_quiet ((go_at_call 48; first | (with_reducible exact quiet_same (right17_any _ H2.out _)) | (with_reducible exact quiet_same (right19_any _ H2.out _))))
          have hS3 := hS2.drewN nq
          have d16 : (wr2.drewN nq).cell? _ = _ := c16'
          have d7 : (wr2.drewN nq).cell? _ = _ := c7'
          have d0 : (wr2.drewN nq).cell? _ = _ := c0'
          have df : (wr2.drewN nq).frozen? _ = _ := cf'
          clear c16' c7' c2' c0' cf' hS2
          generalize wr2.drewN nq = wr3 at *
          have HNW2 := Lib.hid (show nw (ext (ws16 bs) j) = (x16 + bits BinOp.xor IntKind.u32 (bits BinOp.xor IntKind.u32 (rr 128 33554432 x15) (rr 262144 16384 x15)) (x15 / 8) + x7 + bits BinOp.xor IntKind.u32 (bits BinOp.xor IntKind.u32 (rr 131072 32768 x2) (rr 524288 8192 x2)) (x2 / 1024)) % 4294967296 from HNW.out)
          generalize bits BinOp.xor IntKind.u32 (bits BinOp.xor IntKind.u32 (rr 128 33554432 x15) (rr 262144 16384 x15)) (x15 / 8) = XP at *
          generalize bits BinOp.xor IntKind.u32 (bits BinOp.xor IntKind.u32 (rr 131072 32768 x2) (rr 524288 8192 x2)) (x2 / 1024) = XQ at *
          go_wp2_with fail
          go_still_tail 14, (by kernel_rfl)
          go_wp2
          go_roundg (48 - (j + 1))
          case measure => have := hM2.out; omega
          case rel =>
            refine ⟨j + 1, rfl, by omega, ?_, ?_⟩
            · have := HT.out; simp; omega
            · have := hS3.set t (.int .u32 (nw (ext (ws16 bs) j))) HSET.out
              rw [HNW2.out] at this
              exact this.drew
        · obtain rfl : j = 48 := by omega
          have hdec : decide (((16 + 48 : Nat) : Int) < 64) = false := by decide
          have hfin0 : P2 bs 48 = spr bs := by simp [P2, spr]
          have hPL := P2_len bs 48 (by omega)
          generalize P2 bs 48 = LL at *
          have hfin := Lib.hid hfin0
          clear hfin0
          have HT := Lib.hid hS.res.there
          have HR := Lib.hid hS.arr.range
          have hsz : (us LL).length = 64 := by rw [us_len]; exact hPL
          have HSZ := Lib.hid hsz
          have HTH := Lib.hid (show wr.there w.heap.size 0 (us LL).toArray.size by
            have e : (us LL).toArray.size = 64 := hsz
            rw [e]; exact HT.out)
          clear hsz
          have hbel := hS.below
          go_wp2_with (first
            | (refine wpList_load_mid rfl 89 (.tmp 3) rfl (w.heap.size + 1) 0 rfl (us LL) _ HR.out Tryd.underlying89 rfl (by rw [HSZ.out]; exact Tryd.size89) ?_)
            | (refine wpList_store_mid rfl 89 (.tmp 2) (.tmp 85) rfl w.heap.size 0 (us LL).toArray rfl rfl HTH.out (by rw [show (us LL).toArray.size = 64 from HSZ.out]; exact Tryd.size89) (all_oneCell_toArray (us_one _)) ?_))
          exact bodyPost_ret (results_arr rfl _ _ w.heap.size (us LL) _ rfl (World.rangeAt_setCells_same _ _ _ _ (by simpa using HTH.out)) Tryd.underlying89 rfl (by rw [HSZ.out]; exact Tryd.size89)) rfl ⟨by rw [hfin.out], Below.setCells' hbel _ _ (Nat.le_refl _) _⟩
end Go.Proofs.YtdppnicbpdjanaaDoor

namespace Go.Proofs.YtdppnicbpdjanaaDoor
set_option linter.unusedSimpArgs false
set_option linter.unusedVariables false
open Go.RowKit

theorem eight (T : List Int) (h : T.length = 8) : ∃ a b c d e f g i, T = [a, b, c, d, e, f, g, i] := by
  match T, h with
  | [a, b, c, d, e, f, g, i], _ => exact ⟨a, b, c, d, e, f, g, i, rfl⟩
def stl (s : List Int) (x : Int) : List Int := st8 (s.getD 0 0) (s.getD 1 0) (s.getD 2 0) (s.getD 3 0) (s.getD 4 0) (s.getD 5 0) (s.getD 6 0) (s.getD 7 0) x
def rnd (K ws s : List Int) : Nat → List Int
  | 0 => s
  | j + 1 => stl (rnd K ws s j) ((K.getD j 0 + ws.getD j 0) % 4294967296)
def addl (s r : List Int) (j : Nat) : List Int := (List.range 8).map fun i => if i < j then (s.getD i 0 + r.getD i 0) % 4294967296 else s.getD i 0
def cmp (K s : List Int) (bs : List Nat) : List Int := addl s (rnd K (spr bs) s 64) 8
theorem rnd_len (K ws s : List Int) (h : s.length = 8) (j : Nat) : (rnd K ws s j).length = 8 := by
  cases j with
  | zero => exact h
  | succ j => simp [rnd, stl, st8]
theorem st8_w (a b c d e f g h x : Int) (ha : W32 a) (hb : W32 b) (hc : W32 c) (he : W32 e) (hf : W32 f) (hg : W32 g) : ∀ y ∈ st8 a b c d e f g h x, W32 y := by
  intro y hy
  simp [st8] at hy
  rcases hy with rfl | rfl | rfl | rfl | rfl | rfl | rfl | rfl
  all_goals first | assumption | (unfold W32; omega)
theorem rnd_w (K ws s : List Int) (h : ∀ x ∈ s, W32 x) (j : Nat) : ∀ x ∈ rnd K ws s j, W32 x := by
  induction j with
  | zero => exact h
  | succ j ih => exact st8_w _ _ _ _ _ _ _ _ _ (getD_w _ ih _) (getD_w _ ih _) (getD_w _ ih _) (getD_w _ ih _) (getD_w _ ih _) (getD_w _ ih _)
theorem addl_zero (s r : List Int) (h : s.length = 8) : addl s r 0 = s := by
  apply List.ext_getElem (by simp [addl, h])
  intro i h1 h2
  simp [addl, List.getD, h2]
theorem addl_len (s r : List Int) (j : Nat) : (addl s r j).length = 8 := by simp [addl]
theorem addl_w (s r : List Int) (h : ∀ x ∈ s, W32 x) (j : Nat) : ∀ x ∈ addl s r j, W32 x := by
  intro x hx
  simp only [addl, List.mem_map] at hx
  obtain ⟨i, _, rfl⟩ := hx
  split
  · unfold W32; omega
  · exact getD_w s h i
theorem addl_at (s r : List Int) (j : Nat) (hj : j < 8) : (us (addl s r j))[j]? = some (.int .u32 (s.getD j 0)) := by
  rw [us_get _ _ (by rw [addl_len]; exact hj)]
  simp [addl, List.getD, hj]
theorem addl_set (s r : List Int) (j : Nat) (hj : j < 8) : (us (addl s r j)).set j (.int .u32 ((s.getD j 0 + r.getD j 0) % 4294967296)) = us (addl s r (j + 1)) := by
  unfold us
  rw [← List.map_set]
  congr 1
  apply List.ext_getElem (by simp [addl])
  intro i h1 h2
  rw [List.getElem_set]
  by_cases e : j = i
  · subst e
    simp [addl]
  · rw [if_neg e]
    simp only [addl, List.getElem_map, List.getElem_range]
    have : (i < j + 1) = (i < j) := by rw [eq_iff_iff]; omega
    simp [this]
theorem cmp_len (K s : List Int) (bs : List Nat) : (cmp K s bs).length = 8 := addl_len _ _ _
theorem cmp_w (K s : List Int) (bs : List Nat) (h : ∀ x ∈ s, W32 x) : ∀ x ∈ cmp K s bs, W32 x := addl_w _ _ h _
theorem K0_w : ∀ x ∈ K0, W32 x := by unfold W32; decide

/-- The state of foldChunk. -/
structure FC (w wr : World) (s T ws : List Int) (gw : Nat) : Prop where
  box : Blk wr w.heap.size 73 (us s).toArray
  res : Blk wr (w.heap.size + 1) 73 Z8
  trn : Blk wr (w.heap.size + 1 + 1) 73 (us T).toArray
  wrd : Blk wr gw 89 (us ws).toArray
  far : w.heap.size + 1 + 1 < gw
  tab : TabAt wr
  below : Below w.heap.size w wr

theorem tab_w (w : World) (h : TabAt w) (j : Nat) (hj : j < 64) : w.cell? ⟨0, j, none⟩ = some (.int .u32 (K0.getD j 0)) := h.2 j hj

set_option maxHeartbeats 1000000 in
set_option maxRecDepth 100000 in
theorem foldChunk_any (A : Option Addr) (c : Nat) (bs : List Nat) (s : List Int) (w : World) (hr : Rd w w.heap.size A 64 (bys bs)) (hb : ∀ c ∈ bs, c < 256) (hs : s.length = 8) (hw : ∀ x ∈ s, W32 x) (ht : TabAt w) :
    Calls Tryd.prog 38 #[.agg (us s).toArray, .slice A 64 c] w fun e w' => e = .returned (.agg (us (cmp K0 s bs)).toArray) ∧ Below w.heap.size w w' := by
  have hsz : (us s).length = 8 := by rw [us_len, hs]
  have HSZ := Lib.hid hsz
  have HS := Lib.hid hs
  have HB := Lib.hid hb
  have HW := Lib.hid hw
  have HTab := Lib.hid ht
  have W1e : ∃ W1 : World, W1 = (w.alloc (.cells (us s).toArray 73)).alloc (.cells Z8 73) := ⟨_, rfl⟩
  obtain ⟨W1, e1⟩ := W1e
  have hW1s : W1.heap.size = w.heap.size + 1 + 1 := by rw [e1]; simp
  have hB1 : Below w.heap.size w W1 := by rw [e1]; exact ((Below.refl _ _).alloc (Nat.le_refl _) _).alloc (by simp) _
  have b0 : Blk W1 w.heap.size 73 (us s).toArray := by rw [e1]; exact heap_alloc2_old w _ _
  have b1 : Blk W1 (w.heap.size + 1) 73 Z8 := by rw [e1]; exact heap_alloc2_new w _ _
  have HE1 := Lib.hid e1
  have HR0 := Lib.hid (show ((w.alloc (.cells (us s).toArray 73)).alloc (.cells Z8 73)).rangeAt w.heap.size 0 (us s) by rw [← e1]; exact b0.range)
  have HT0 := Lib.hid (show (((w.alloc (.cells (us s).toArray 73)).alloc (.cells Z8 73)).alloc (.cells Z8 73)).there (w.heap.size + 1 + 1) 0 (us s).toArray.size by
    have := there_new W1 Z8 73 8 rfl
    rw [hW1s, e1] at this
    rw [show (us s).toArray.size = 8 from hsz]; exact this)
  have hW2e : ∃ W2 : World, W2 = (W1.alloc (.cells Z8 73)).setCells (w.heap.size + 1 + 1) 0 (us s) := ⟨_, rfl⟩
  obtain ⟨W2, e2⟩ := hW2e
  have hW2s : W2.heap.size = w.heap.size + 1 + 1 + 1 := by rw [e2, size_setCells]; simp [hW1s]
  have hB2 : Below w.heap.size w W2 := by rw [e2]; exact Below.setCells' (hB1.alloc (by omega) _) _ _ (by omega) _
  have d0 : Blk W2 w.heap.size 73 (us s).toArray := by rw [e2]; exact (b0.alloc _).setCells _ _ _ (by omega)
  have d1 : Blk W2 (w.heap.size + 1) 73 Z8 := by rw [e2]; exact (b1.alloc _).setCells _ _ _ (by omega)
  have d2 : Blk W2 (w.heap.size + 1 + 1) 73 (us s).toArray := by
    rw [e2]
    have := Blk.new W1 73 Z8
    rw [hW1s] at this
    exact this.stored (us s) hsz
  have ht2 : TabAt W2 := ht.below hB2 ht.1
  have hr2 : Rd W2 W2.heap.size A 64 (bys bs) := (hr.below hB2).up (by omega)
  have HE2 := Lib.hid (show ((((w.alloc (.cells (us s).toArray 73)).alloc (.cells Z8 73)).alloc (.cells Z8 73)).setCells (w.heap.size + 1 + 1) 0 (us s)) = W2 by rw [e2, e1])
  clear e1 e2 hsz hs hb hw ht
  go_enter Tryd.func38, Tryd.ntmps38
  go_wp2_with (first
    | (refine wpList_of_wp rfl fun K hK => wp_alloc_arr 73 rfl Z8 Tryd.zero73 (hK _ _ ?_); (try simp only [World.size_alloc]))
    | (refine wpList_load_mid rfl 73 (.tmp 2) rfl w.heap.size 0 rfl (us s) _ HR0.out Tryd.underlying73 rfl (by rw [HSZ.out]; exact Tryd.size73) ?_)
    | (refine wpList_store_mid rfl 73 (.tmp 5) (.tmp 9) rfl (w.heap.size + 1 + 1) 0 (us s).toArray rfl rfl HT0.out (by rw [show (us s).toArray.size = 8 from HSZ.out]; exact Tryd.size73) (all_oneCell_toArray (us_one _)) ?_))
  rw [show (((((w.alloc (.cells (us s).toArray 73)).alloc (.cells Z8 73)).alloc (.cells Z8 73)).setCells (w.heap.size + 1 + 1) 0 (us s).toArray.toList)) = W2 from HE2.out]
  refine (spread_any A c bs W2 hr2 HB.out).mono ?_
  rintro e w3 ⟨rfl, hb3⟩
  have hs3 : w.heap.size + 1 + 1 + 1 ≤ w3.heap.size := by have := hb3.size; omega
  have hlen := spr_len bs
  have hsw := spr_w bs HB.out
  have HCMP := Lib.hid (show cmp K0 s bs = addl s (rnd K0 (spr bs) s 64) 8 from rfl)
  generalize spr bs = ws at *
  have HLW := Lib.hid hlen
  have HSW := Lib.hid hsw
  have HT3 := Lib.hid (show (w3.alloc (.cells Z64 89)).there w3.heap.size 0 (us ws).toArray.size by
    have := there_new w3 Z64 89 64 rfl
    rw [show (us ws).toArray.size = 64 by rw [List.size_toArray, us_len]; exact hlen]; exact this)
  have hF : FC w ((w3.alloc (.cells Z64 89)).setCells w3.heap.size 0 (us ws)) s s ws w3.heap.size := by
    have hB3 : Below w.heap.size w w3 := hB2.trans (hb3.mono (by omega))
    have hB4 : Below w.heap.size w ((w3.alloc (.cells Z64 89)).setCells w3.heap.size 0 (us ws)) := Below.setCells' (hB3.alloc (by omega) _) _ _ (by omega) _
    exact ⟨((d0.below hb3 (by omega)).alloc _).setCells _ _ _ (by omega), ((d1.below hb3 (by omega)).alloc _).setCells _ _ _ (by omega), ((d2.below hb3 (by omega)).alloc _).setCells _ _ _ (by omega),
      (Blk.new w3 89 Z64).stored (us ws) (by rw [us_len]; exact hlen), by omega, HTab.out.below hB4 HTab.out.1, hB4⟩
  clear hlen hsw d0 d1 d2 b0 b1 hB1 hB2 hb3 hr2 ht2 HE1
  go_wp2_with (first
    | (refine wpList_of_wp rfl fun K hK => wp_alloc_arr 89 rfl Z64 Tryd.zero89 (hK _ _ ?_); (try simp only [World.size_alloc]))
    | (refine wpList_store_mid rfl 89 (.tmp 6) (.tmp 11) rfl w3.heap.size 0 (us ws).toArray rfl rfl HT3.out (by rw [show (us ws).toArray.size = 64 by rw [List.size_toArray, us_len]; exact HLW.out]; exact Tryd.size89) (all_oneCell_toArray (us_one _)) ?_))
  go_loopg [12] 64 (fun k v wr => ∃ j, k = 64 - j ∧ j ≤ 64 ∧ v = .int .i64 j ∧ FC w wr s (rnd K0 ws s j) ws w3.heap.size)
  case atStart => exact ⟨0, rfl, Nat.zero_le _, rfl, hF⟩
  case round =>
    clear hF
    obtain ⟨j, hk, hj, rfl, hF⟩ := hrel
    have hM := Lib.hid hk
    clear hk
    by_cases hlt : j < 64
    · have hlt' : (j : Int) < 64 := by omega
      have hTw := rnd_w K0 ws s HW.out j
      have hTl := rnd_len K0 ws s HS.out j
      have hnx := Lib.hid (show rnd K0 ws s (j + 1) = stl (rnd K0 ws s j) ((K0.getD j 0 + ws.getD j 0) % 4294967296) from rfl)
      generalize rnd K0 ws s j = T at *
      obtain ⟨a, b, c, d, e, f, g, h, rfl⟩ := eight T hTl
      have q0 := hF.trn.cell 0 _ rfl
      have q1 := hF.trn.cell 1 _ rfl
      have q2 := hF.trn.cell 2 _ rfl
      have q3 := hF.trn.cell 3 _ rfl
      have q4 := hF.trn.cell 4 _ rfl
      have q5 := hF.trn.cell 5 _ rfl
      have q6 := hF.trn.cell 6 _ rfl
      have q7 := hF.trn.cell 7 _ rfl
      have qt := tab_w wr hF.tab j hlt
      have qw := hF.wrd.cell j _ (us_get ws j (by rw [HLW.out]; exact hlt))
      have xw := getD_w ws HSW.out j
      have kw := getD_w K0 K0_w j
      generalize K0.getD j 0 = kj at *
      generalize ws.getD j 0 = wj at *
      have HTw := Lib.hid hTw
      obtain ⟨x0, x1⟩ := xw
      obtain ⟨k0, k1⟩ := kw
      clear hTw hTl
      go_wp2_with fail
      go_still_tail 8, (by kernel_rfl)
      go_wp2_with fail
      have m0 := HTw.out a (by simp)
      have m1 := HTw.out b (by simp)
      have m2 := HTw.out c (by simp)
      have m3 := HTw.out d (by simp)
      have m4 := HTw.out e (by simp)
      have m5 := HTw.out f (by simp)
      have m6 := HTw.out g (by simp)
      have m7 := HTw.out h (by simp)
      refine (step_any a b c d e f g h _ m0 m1 m2 m3 m4 m5 m6 m7 (show W32 ((kj + wj) % 4294967296) by unfold W32; omega) _).mono ?_
      rintro ee w5 ⟨rfl, hb5⟩
      have hb5' : Below wr.heap.size wr w5 := ⟨hb5.os, hb5.tape, hb5.output, hb5.size, hb5.block⟩
      clear hb5 m0 m1 m2 m3 m4 m5 m6 m7 q0 q1 q2 q3 q4 q5 q6 q7 qt qw
      have hlt5 := hF.wrd.lt
      have hF5 : FC w w5 s [a, b, c, d, e, f, g, h] ws w3.heap.size :=
        ⟨hF.box.below hb5' hF.box.lt, hF.res.below hb5' hF.res.lt, hF.trn.below hb5' hF.trn.lt, hF.wrd.below hb5' hF.wrd.lt, hF.far, hF.tab.below hb5' hF.tab.1, hF.below.trans (hb5'.mono hF.below.size)⟩
      clear hF hb5'
      have hst : (us (st8 a b c d e f g h ((kj + wj) % 4294967296))).length = 8 := rfl
      have HNX := Lib.hid (show rnd K0 ws s (j + 1) = st8 a b c d e f g h ((kj + wj) % 4294967296) by rw [hnx.out]; rfl)
      generalize st8 a b c d e f g h ((kj + wj) % 4294967296) = T' at *
      have HST := Lib.hid hst
      have HTT := Lib.hid (show w5.there (w.heap.size + 1 + 1) 0 (us T').toArray.size by
        have := hF5.trn.there
        rw [show (us T').toArray.size = 8 from hst]; exact this)
      clear hst
      go_wp2_with (refine wpList_store_mid rfl 73 (.tmp 5) (.tmp 23) rfl (w.heap.size + 1 + 1) 0 (us T').toArray rfl rfl HTT.out (by rw [show (us T').toArray.size = 8 from HST.out]; exact Tryd.size73) (all_oneCell_toArray (us_one _)) ?_)
      go_roundg (64 - (j + 1))
      case measure => have := hM.out; omega
      case rel =>
        have hfar := hF5.far
        have hB6 : Below w.heap.size w (w5.setCells (w.heap.size + 1 + 1) 0 (us T')) := Below.setCells' hF5.below _ _ (by omega) _
        refine ⟨j + 1, rfl, by omega, by go_num, hF5.box.setCells _ _ _ (by omega), hF5.res.setCells _ _ _ (by omega), ?_, hF5.wrd.setCells _ _ _ (by omega), hfar, HTab.out.below hB6 HTab.out.1, hB6⟩
        rw [HNX.out]
        exact hF5.trn.stored (us T') HST.out
    · obtain rfl : j = 64 := by omega
      have hdec : decide (((64 : Nat) : Int) < 64) = false := by decide
      have hTl := rnd_len K0 ws s HS.out 64
      have HC2 := HCMP.out
      generalize rnd K0 ws s 64 = T at *
      have HCM := Lib.hid HC2
      have HTl := Lib.hid hTl
      clear HC2 hTl
      go_wp2_with fail
      go_loopg [25] 8 (fun k v wr => ∃ i, k = 8 - i ∧ i ≤ 8 ∧ v = .int .i64 i ∧ FC w wr (addl s T i) T ws w3.heap.size)
      case atStart => exact ⟨0, rfl, Nat.zero_le _, rfl, by rw [addl_zero s T HS.out]; exact hF⟩
      case round =>
        clear hF hdec hlt
        obtain ⟨i, hk, hi, rfl, hF⟩ := hrel
        have hM2 := Lib.hid hk
        clear hk
        by_cases hlt : i < 8
        · have hlt' : (i : Int) < 8 := by omega
          have q0 := hF.box.cell i _ (addl_at s T i hlt)
          have q1 := hF.trn.cell i _ (us_get T i (by rw [HTl.out]; exact hlt))
          have qf := hF.box.cold i
          have hset := Lib.hid (addl_set s T i hlt)
          generalize s.getD i 0 = si at *
          generalize T.getD i 0 = ti at *
          go_wp2_with fail
          go_still_tail 7, (by kernel_rfl)
          go_wp2
          go_roundg (8 - (i + 1))
          case measure => have := hM2.out; omega
          case rel =>
            have hfar := hF.far
            refine ⟨i + 1, rfl, by omega, by go_num, ?_⟩
            have hB6 : Below w.heap.size w ((wr.setCell ⟨w.heap.size, i, none⟩ (.int .u32 ((si + ti) % 4294967296)))) := hF.below.setCell (by simp) _
            have h1 := hF.box.set i (.int .u32 ((si + ti) % 4294967296))
            rw [List.setIfInBounds_toArray, hset.out] at h1
            exact ⟨h1.drew, (hF.res.other _ _ (by simp)).drew, (hF.trn.other _ _ (by simp; omega)).drew, (hF.wrd.other _ _ (by simp; omega)).drew, hfar, HTab.out.below (Below.drew' hB6) HTab.out.1, Below.drew' hB6⟩
        · obtain rfl : i = 8 := by omega
          have hdec : decide (((8 : Nat) : Int) < 8) = false := by decide
          have hal := addl_len s T 8
          have hcm := HCM.out
          generalize addl s T 8 = LL at *
          have hsz : (us LL).length = 8 := by rw [us_len]; exact hal
          have HSZ2 := Lib.hid hsz
          have HR := Lib.hid hF.box.range
          have HTH := Lib.hid (show wr.there (w.heap.size + 1) 0 (us LL).toArray.size by
            have := hF.res.there
            rw [show (us LL).toArray.size = 8 from hsz]; exact this)
          have HCM2 := Lib.hid hcm
          clear hsz hal hcm
          have hbel := hF.below
          go_wp2_with (first
            | (refine wpList_load_mid rfl 73 (.tmp 2) rfl w.heap.size 0 rfl (us LL) _ HR.out Tryd.underlying73 rfl (by rw [HSZ2.out]; exact Tryd.size73) ?_)
            | (refine wpList_store_mid rfl 73 (.tmp 4) (.tmp 37) rfl (w.heap.size + 1) 0 (us LL).toArray rfl rfl HTH.out (by rw [show (us LL).toArray.size = 8 from HSZ2.out]; exact Tryd.size73) (all_oneCell_toArray (us_one _)) ?_))
          exact bodyPost_ret (results_arr rfl _ _ (w.heap.size + 1) (us LL) _ rfl (World.rangeAt_setCells_same _ _ _ _ (by simpa using HTH.out)) Tryd.underlying73 rfl (by rw [HSZ2.out]; exact Tryd.size73)) rfl ⟨by rw [HCM2.out], Below.setCells' hbel _ _ (by omega) _⟩
end Go.Proofs.YtdppnicbpdjanaaDoor

namespace Go.Proofs.YtdppnicbpdjanaaDoor
set_option linter.unusedSimpArgs false
set_option linter.unusedVariables false
open Go.RowKit

def fld (K s : List Int) (bs : List Nat) : Nat → List Int
  | 0 => s
  | i + 1 => cmp K (fld K s bs i) ((bs.drop (64 * i)).take 64)
theorem fld_len (K s : List Int) (bs : List Nat) (h : s.length = 8) (i : Nat) : (fld K s bs i).length = 8 := by
  cases i with
  | zero => exact h
  | succ i => exact cmp_len _ _ _
theorem fld_w (K s : List Int) (bs : List Nat) (h : ∀ x ∈ s, W32 x) (i : Nat) : ∀ x ∈ fld K s bs i, W32 x := by
  induction i with
  | zero => exact h
  | succ i ih => exact cmp_w _ _ _ ih

theorem Tryd.info5 : (Tryd.prog.info? 5).map (fun i => (i.zero, i.size, i.bytes)) = some (some (.int .u8 0), 1, 1) := by kernel_rfl
/-- The state of fold. -/
structure FS (w wr : World) (T : List Int) : Prop where
  box : Blk wr w.heap.size 73 (us T).toArray
  res : Blk wr (w.heap.size + 1) 73 Z8
  below : Below w.heap.size w wr

set_option maxHeartbeats 1000000 in
set_option maxRecDepth 100000 in
theorem fold_any (A : Option Addr) (n c : Nat) (bs : List Nat) (s : List Int) (w : World) (hr : Rd w w.heap.size A n (bys bs)) (hb : ∀ c ∈ bs, c < 256) (hn : (n : Int) ≤ 1000000000) (hc : n ≤ c) (hcm : (c : Int) ≤ 9223372036854775807) (hs : s.length = 8) (hw : ∀ x ∈ s, W32 x) (ht : TabAt w) :
    Calls Tryd.prog 27 #[.agg (us s).toArray, .slice A n c] w fun e w' => e = .returned (.agg (us (fld K0 s bs (n / 64))).toArray) ∧ Below w.heap.size w w' := by
  obtain ⟨i0, hi5, hz0, hz1, hz2⟩ := info_parts Tryd.info5
  have hlen : bs.length = n := by have := hr.1; rwa [bys_len] at this
  have HLEN := Lib.hid hlen
  have HS := Lib.hid hs
  have HB := Lib.hid hb
  have HW := Lib.hid hw
  have HTab := Lib.hid ht
  have hF : FS w ((w.alloc (.cells (us s).toArray 73)).alloc (.cells Z8 73)) s :=
    ⟨heap_alloc2_old w _ _, heap_alloc2_new w _ _, ((Below.refl _ _).alloc (Nat.le_refl _) _).alloc (by simp) _⟩
  have hq : (n : Int) / 64 = ((n / 64 : Nat) : Int) := by omega
  have HQ := Lib.hid hq
  obtain ⟨q, hqq⟩ : ∃ q, q = n / 64 := ⟨_, rfl⟩
  rw [← hqq]
  have h64 : 64 * q ≤ n := by omega
  have hn64 : n ≤ 64 * q + 63 := by omega
  have hq2 : (n : Int) / 64 = (q : Int) := by omega
  have HQ2 := Lib.hid hq2
  clear hq hqq hs hb hw ht hlen hq2
  go_enter Tryd.func27, Tryd.ntmps27
  go_wp2_with (refine wpList_of_wp rfl fun K hK => wp_alloc_arr 73 rfl Z8 Tryd.zero73 (hK _ _ ?_); (try simp only [World.size_alloc]))
  rw [HQ2.out]
  go_loopg [9] q (fun k v wr => ∃ j, k = q - j ∧ j ≤ q ∧ v = .int .i64 j ∧ FS w wr (fld K0 s bs j))
  case atStart => exact ⟨0, rfl, Nat.zero_le _, rfl, hF⟩
  case round =>
    clear hF
    obtain ⟨j, hk, hj, rfl, hF⟩ := hrel
    have hM := Lib.hid hk
    clear hk
    by_cases hlt : j < q
    · have hlt' : (j : Int) < (q : Int) := by omega
      have hTw := fld_w K0 s bs HW.out j
      have hTl := fld_len K0 s bs HS.out j
      have hnx := Lib.hid (show fld K0 s bs (j + 1) = cmp K0 (fld K0 s bs j) ((bs.drop (64 * j)).take 64) from rfl)
      generalize fld K0 s bs j = T at *
      have hTl' := hTl
      obtain ⟨a, b, cc, d, e, f, g, h, rfl⟩ := eight T hTl
      have q0 := hF.box.cell 0 _ rfl
      have q1 := hF.box.cell 1 _ rfl
      have q2 := hF.box.cell 2 _ rfl
      have q3 := hF.box.cell 3 _ rfl
      have q4 := hF.box.cell 4 _ rfl
      have q5 := hF.box.cell 5 _ rfl
      have q6 := hF.box.cell 6 _ rfl
      have q7 := hF.box.cell 7 _ rfl
      have hr1 := (hr.below hF.below)
      have hrm := Lib.hid (hr1.mid (64 * j) (64 * (j + 1)) c (by omega) (by omega) hc)
      have hsl := fun wx => run_slice_lh (P := Tryd.prog) wx 39 5 i0 Tryd.underlying39 hi5 hz1 A n c (64 * j) (64 * (j + 1)) (by omega) (by omega) .i64 .i64 (64 * (j : Int)) (64 * ((j : Int) + 1)) (by omega) (by omega)
      have e64 : 64 * (j + 1) - 64 * j = 64 := by omega
      rw [e64] at hsl
      generalize (if c = 64 * j then A else A.map (·.add (64 * j))) = A2 at *
      have HTw := Lib.hid hTw
      have z1 := IntWalk.i64_in (64 * (j : Int)) (by omega)
      have z2 := IntWalk.i64_in ((j : Int) + 1) (by omega)
      have z3 := IntWalk.i64_in (64 * ((j : Int) + 1)) (by omega)
      have HTl := Lib.hid hTl'
      clear hTw hTl hTl'
      go_wp2_with fail
      go_still_tail 8, (by kernel_rfl)
      go_wp2_with fail
      clear hsl z1 z2 z3 q0 q1 q2 q3 q4 q5 q6 q7
      have hrm2 := hrm.out
      rw [e64] at hrm2
      have hrm3 : Rd wr.drew wr.drew.heap.size A2 64 (bys ((bs.drop (64 * j)).take 64)) := by
        have := hrm2.up (B' := wr.heap.size) hF.below.size
        rw [bys_take, bys_drop]; exact this
      have hbb : ∀ x ∈ (bs.drop (64 * j)).take 64, x < 256 := fun x hx => HB.out x (List.mem_of_mem_drop (List.mem_of_mem_take hx))
      refine (foldChunk_any A2 _ _ [a, b, cc, d, e, f, g, h] wr.drew hrm3 hbb rfl HTw.out (HTab.out.below (Below.drew' hF.below) HTab.out.1)).mono ?_
      rintro ee w5 ⟨rfl, hb5⟩
      have hb5' : Below wr.heap.size wr w5 := ⟨hb5.os, hb5.tape, hb5.output, hb5.size, hb5.block⟩
      have hF5 : FS w w5 [a, b, cc, d, e, f, g, h] := ⟨hF.box.below hb5' hF.box.lt, hF.res.below hb5' hF.res.lt, hF.below.trans (hb5'.mono hF.below.size)⟩
      clear hF hb5' hb5 hrm2 hrm3 hbb hr1 e64
      have hcl := cmp_len K0 [a, b, cc, d, e, f, g, h] ((bs.drop (64 * j)).take 64)
      have hnx := hnx.out
      generalize cmp K0 [a, b, cc, d, e, f, g, h] ((bs.drop (64 * j)).take 64) = T' at *
      have HNX := Lib.hid hnx
      have hst : (us T').length = 8 := by rw [us_len]; exact hcl
      have HST := Lib.hid hst
      have HTT := Lib.hid (show w5.there w.heap.size 0 (us T').toArray.size by
        have := hF5.box.there
        rw [show (us T').toArray.size = 8 from hst]; exact this)
      clear hst hnx hcl
      go_wp2_with (refine wpList_store_mid rfl 73 (.tmp 2) (.tmp 20) rfl w.heap.size 0 (us T').toArray rfl rfl HTT.out (by rw [show (us T').toArray.size = 8 from HST.out]; exact Tryd.size73) (all_oneCell_toArray (us_one _)) ?_)
      go_roundg (q - (j + 1))
      case measure => have := hM.out; omega
      case rel =>
        refine ⟨j + 1, rfl, by omega, by go_num, ?_, hF5.res.setCells _ _ _ (by omega), Below.setCells' hF5.below _ _ (Nat.le_refl _) _⟩
        rw [HNX.out]
        exact hF5.box.stored (us T') HST.out
    · obtain rfl : q = j := by omega
      have hdec : decide ((q : Int) < (q : Int)) = false := by simp
      have hal := fld_len K0 s bs HS.out q
      have hcm : fld K0 s bs q = fld K0 s bs q := rfl
      obtain ⟨LL, hLL⟩ : ∃ LL, fld K0 s bs q = LL := ⟨_, rfl⟩
      rw [hLL] at hF hal
      have HLL := Lib.hid hLL
      have hsz : (us LL).length = 8 := by rw [us_len]; exact hal
      have HSZ2 := Lib.hid hsz
      have HR := Lib.hid hF.box.range
      have HTH := Lib.hid (show wr.there (w.heap.size + 1) 0 (us LL).toArray.size by
        have := hF.res.there
        rw [show (us LL).toArray.size = 8 from hsz]; exact this)
      clear hsz hal hcm hLL
      have hbel := hF.below
      go_wp2_with (first
        | (refine wpList_load_mid rfl 73 (.tmp 2) rfl w.heap.size 0 rfl (us LL) _ HR.out Tryd.underlying73 rfl (by rw [HSZ2.out]; exact Tryd.size73) ?_)
        | (refine wpList_store_mid rfl 73 (.tmp 4) (.tmp 22) rfl (w.heap.size + 1) 0 (us LL).toArray rfl rfl HTH.out (by rw [show (us LL).toArray.size = 8 from HSZ2.out]; exact Tryd.size73) (all_oneCell_toArray (us_one _)) ?_))
      exact bodyPost_ret (results_arr rfl _ _ (w.heap.size + 1) (us LL) _ rfl (World.rangeAt_setCells_same _ _ _ _ (by simpa using HTH.out)) Tryd.underlying73 rfl (by rw [HSZ2.out]; exact Tryd.size73)) rfl ⟨by rw [HLL.out], Below.setCells' hbel _ _ (by omega) _⟩
end Go.Proofs.YtdppnicbpdjanaaDoor

namespace Go.Proofs.YtdppnicbpdjanaaDoor
set_option linter.unusedSimpArgs false
set_option linter.unusedVariables false
open Go.RowKit

/-- Byte j (the highest first) of word x. -/
def wb (x : Int) (j : Nat) : Nat := (x / 2 ^ (8 * (3 - j)) % 256).toNat
def hsh (s : List Int) : List Nat := (List.range 32).map fun i => wb (s.getD (i / 4) 0) (i % 4)
def hTo (s : List Int) (k : Nat) : List Nat := (List.range 32).map fun i => if i < k then wb (s.getD (i / 4) 0) (i % 4) else 0
theorem hTo_len (s : List Int) (k : Nat) : (hTo s k).length = 32 := by simp [hTo]
theorem hTo_all (s : List Int) : hTo s 32 = hsh s := by
  unfold hTo hsh
  apply List.map_congr_left
  intro i hi
  rw [if_pos (by simpa using hi)]
theorem hTo_at (s : List Int) (k : Nat) (hk : k < 32) : (bys (hTo s k))[k]? = some (.int .u8 0) := by
  rw [bys_get _ _ (by rw [hTo_len]; exact hk)]
  simp [hTo, List.getD, hk]
theorem hTo_set (s : List Int) (k : Nat) (hk : k < 32) : (bys (hTo s k)).set k (.int .u8 ((wb (s.getD (k / 4) 0) (k % 4) : Nat) : Int)) = bys (hTo s (k + 1)) := by
  unfold bys
  rw [← List.map_set (f := fun (c : Nat) => Value.int .u8 (c : Int))]
  congr 1
  apply List.ext_getElem (by simp [hTo])
  intro i h1 h2
  rw [List.getElem_set]
  by_cases e : k = i
  · subst e; simp [hTo]
  · rw [if_neg e]
    simp only [hTo, List.getElem_map, List.getElem_range]
    have : (i < k + 1) = (i < k) := by rw [eq_iff_iff]; omega
    simp [this]
theorem wb_cast (x : Int) (j : Nat) : ((wb x j : Nat) : Int) = x / 2 ^ (8 * (3 - j)) % 256 := by unfold wb; omega
theorem wb_lt (x : Int) (j : Nat) : wb x j < 256 := by unfold wb; omega
theorem hsh_lt (s : List Int) : ∀ c ∈ hsh s, c < 256 := by
  intro c hc
  simp [hsh] at hc
  obtain ⟨i, _, rfl⟩ := hc
  exact wb_lt _ _
theorem hsh_len (s : List Int) : (hsh s).length = 32 := by simp [hsh]

def Zs : List Nat := List.replicate 32 0
def ZH : Array Value := (bys Zs).toArray
theorem Tryd.zero33 : (Tryd.prog.info? 33).map (·.zero) = some (some (.agg ZH)) := by kernel_rfl
theorem Tryd.size33 : (Tryd.prog.info? 33).map (·.size) = some 32 := by kernel_rfl
theorem Tryd.info24 : (Tryd.prog.info? 24).map (fun i => (i.zero, i.size, i.bytes)) = some (some (.int .u32 0), 1, 4) := by kernel_rfl
theorem ZH_size : ZH.size = 32 := by kernel_rfl
theorem hTo_zero (s : List Int) : (bys (hTo s 0)).toArray = ZH := by simp [hTo, ZH, Zs]; rfl

structure HSt (w wr : World) (s : List Int) (k : Nat) : Prop where
  res : Blk wr (w.heap.size + 1) 33 ZH
  arr : Blk wr (w.heap.size + 1 + 1) 33 (bys (hTo s k)).toArray
  below : Below w.heap.size w wr

set_option maxHeartbeats 1000000 in
set_option maxRecDepth 100000 in
theorem hash_any (s : List Int) (hs : s.length = 8) (hw : ∀ x ∈ s, W32 x) (w : World) :
    Calls Tryd.prog 29 #[.agg (us s).toArray] w fun e w' => e = .returned (.agg (bys (hsh s)).toArray) ∧ Below w.heap.size w w' := by
  obtain ⟨i27, hi27, hz27, hs27, hb27⟩ := info_parts Tryd.info24
  have hsz : (us s).length = 8 := by rw [us_len, hs]
  have HSZ := Lib.hid hsz
  have HS := Lib.hid hs
  have HW := Lib.hid hw
  have e1 : ((w.alloc (.cells (us s).toArray 73)).alloc (.cells ZH 33)).heap.size = w.heap.size + 1 + 1 := by simp
  have hH : HSt w (((w.alloc (.cells (us s).toArray 73)).alloc (.cells ZH 33)).alloc (.cells ZH 33)) s 0 := by
    refine ⟨Blk.alloc (heap_alloc2_new w _ _) _, ?_, (((Below.refl _ _).alloc (Nat.le_refl _) _).alloc (by simp) _).alloc (by simp; omega) _⟩
    rw [hTo_zero, ← e1]
    exact Blk.new _ _ _
  have HR := Lib.hid (show (((w.alloc (.cells (us s).toArray 73)).alloc (.cells ZH 33)).alloc (.cells ZH 33)).rangeAt w.heap.size 0 (us s) from Blk.range (Blk.alloc (heap_alloc2_old w _ _) _))
  clear e1 hsz hs hw
  go_enter Tryd.func29, Tryd.ntmps29
  go_wp2_with (first
    | (refine wpList_of_wp rfl fun K hK => wp_alloc_arr 33 rfl ZH Tryd.zero33 (hK _ _ ?_); (try simp only [World.size_alloc]))
    | (refine wpList_load_mid rfl 73 (.tmp 1) rfl w.heap.size 0 rfl (us s) _ HR.out Tryd.underlying73 rfl (by rw [HSZ.out]; exact Tryd.size73) ?_))
  go_loopg [8] 8 (fun k v wr => ∃ i, k = 8 - i ∧ i ≤ 8 ∧ v = .int .i64 i ∧ HSt w wr s (4 * i))
  case atStart => exact ⟨0, rfl, Nat.zero_le _, rfl, hH⟩
  case round =>
    clear hH
    obtain ⟨i, hk, hi, rfl, hH⟩ := hrel
    have hM := Lib.hid hk
    clear hk
    by_cases hlt : i < 8
    · have hlt' : (i : Int) < 8 := by omega
      have hix : (us s)[i]? = some (.int .u32 (s.getD i 0)) := us_get s i (by rw [HS.out]; exact hlt)
      have hxw := getD_w s HW.out i
      have hixw := fun wx => run_index_arr (P := Tryd.prog) wx 73 24 8 i27 .u32 Tryd.underlying73 Tryd.underlying24 hi27 hs27 (us s) i hlt _ hix .i64 (i : Int) rfl
      obtain ⟨xi, EX⟩ : ∃ x, Hid (s.getD i 0 = x) := ⟨_, Lib.hid rfl⟩
      rw [EX.out] at hixw hxw
      have HIX := Lib.hid hix
      clear hix
      go_wp2_with fail
      clear hixw
      go_loopg [12] 4 (fun k v wr => ∃ j, k = 4 - j ∧ j ≤ 4 ∧ v = .int .i64 j ∧ HSt w wr s (4 * i + j))
      case atStart => exact ⟨0, rfl, Nat.zero_le _, rfl, hH⟩
      case round =>
        clear hH
        obtain ⟨j, hk, hj, rfl, hH⟩ := hrel
        have hM2 := Lib.hid hk
        clear hk
        by_cases hlj : j < 4
        · have hlj' : (j : Int) < 4 := by omega
          have c1 := hH.arr.cell (4 * i + j) _ (hTo_at s (4 * i + j) (by omega))
          have c2 := hH.arr.cold (4 * i + j)
          have hset := Lib.hid (hTo_set s (4 * i + j) (by omega))
          have hwb := Lib.hid (show ((wb (s.getD ((4 * i + j) / 4) 0) ((4 * i + j) % 4) : Nat) : Int) = xi / 2 ^ (8 * (3 - j)) % 256 by
            rw [show (4 * i + j) / 4 = i by omega, show (4 * i + j) % 4 = j by omega, EX.out, wb_cast])
          have b1 : (0 : Int) ≤ 8 * (3 - (j : Int)) := by omega
          have b2 : 8 * (3 - (j : Int)) ≤ 32 := by omega
          have b3 : 4 * (i : Int) + (j : Int) < 32 := by omega
          have b4 : (0 : Int) ≤ 4 * (i : Int) + (j : Int) := by omega
          have b5 : (4 * (i : Int) + (j : Int)).toNat = 4 * i + j := by omega
          have b6 : (8 * (3 - (j : Int))).toNat = 8 * (3 - j) := by omega
          have hx0 := hxw.1
          have hx1 := hxw.2
          go_wp2_with fail
          go_roundg (4 - (j + 1))
          case measure => have := hM2.out; omega
          case rel =>
            refine ⟨j + 1, rfl, by omega, by go_num, hH.res.other _ _ (by simp), ?_, hH.below.setCell (by simp; omega) _⟩
            have h1 := hH.arr.set (4 * i + j) (.int .u8 ((wb (s.getD ((4 * i + j) / 4) 0) ((4 * i + j) % 4) : Nat) : Int))
            rw [List.setIfInBounds_toArray, hset.out, hwb.out] at h1
            exact h1
        · obtain rfl : j = 4 := by omega
          have hdec : decide (((4 : Nat) : Int) < 4) = false := by decide
          go_wp2_with fail
          go_roundg (8 - (i + 1))
          case measure => have := hM.out; omega
          case rel => exact ⟨i + 1, rfl, by omega, by go_num, hH⟩
    · obtain rfl : i = 8 := by omega
      have hdec : decide (((8 : Nat) : Int) < 8) = false := by decide
      have hal := hTo_len s (4 * 8)
      have hcm : hTo s (4 * 8) = hsh s := hTo_all s
      have hres := hH.res
      have harr := hH.arr
      have hbel := hH.below
      clear hH
      generalize hTo s (4 * 8) = LL at *
      have hsz : (bys LL).length = 32 := by rw [bys_len]; exact hal
      have HSZ2 := Lib.hid hsz
      have HR2 := Lib.hid harr.range
      have HTH := Lib.hid (show wr.there (w.heap.size + 1) 0 (bys LL).toArray.size by
        have := hres.there
        rw [show (bys LL).toArray.size = 32 from hsz]; exact this)
      have HCM := Lib.hid hcm
      clear hsz hal hcm
      go_wp2_with (first
        | (refine wpList_load_mid rfl 33 (.tmp 3) rfl (w.heap.size + 1 + 1) 0 rfl (bys LL) _ HR2.out Tryd.underlying33 rfl (by rw [HSZ2.out]; exact Tryd.size33) ?_)
        | (refine wpList_store_mid rfl 33 (.tmp 2) (.tmp 28) rfl (w.heap.size + 1) 0 (bys LL).toArray rfl rfl HTH.out (by rw [show (bys LL).toArray.size = 32 from HSZ2.out]; exact Tryd.size33) (all_oneCell_toArray (bys_one _)) ?_))
      exact bodyPost_ret (results_arr rfl _ _ (w.heap.size + 1) (bys LL) _ rfl (World.rangeAt_setCells_same _ _ _ _ (by simpa using HTH.out)) Tryd.underlying33 rfl (by rw [HSZ2.out]; exact Tryd.size33)) rfl ⟨by rw [HCM.out], Below.setCells' hbel _ _ (by omega) _⟩
end Go.Proofs.YtdppnicbpdjanaaDoor

namespace Go.Proofs.YtdppnicbpdjanaaDoor
set_option linter.unusedSimpArgs false
set_option linter.unusedVariables false
open Go.RowKit

/-- How many noughts. -/
def zc (n : Nat) : Nat := (119 - n % 64) % 64
def be8 (X : Nat) : Nat → List Nat
  | 0 => []
  | i + 1 => be8 X i ++ [X / 2 ^ (8 * (7 - i)) % 256]
def tl (bs : List Nat) : List Nat := 128 :: List.replicate (zc bs.length) 0 ++ be8 (8 * bs.length) 8
def lst (bs : List Nat) : List Nat := bs.drop (bs.length - bs.length % 64) ++ tl bs
theorem zc_ne (n j : Nat) (h : j < zc n) : (n % 64 + 1 + j) % 64 ≠ 56 := by unfold zc at h; omega
theorem zc_eq (n : Nat) : (n % 64 + 1 + zc n) % 64 = 56 := by unfold zc; omega
theorem zc_lt (n : Nat) : zc n < 64 := by unfold zc; omega
theorem be8_len (X i : Nat) : (be8 X i).length = i := by
  induction i with
  | zero => rfl
  | succ i ih => simp [be8, ih]
theorem be8_lt (X i : Nat) : ∀ c ∈ be8 X i, c < 256 := by
  induction i with
  | zero => simp [be8]
  | succ i ih =>
    intro c hc
    simp [be8] at hc
    rcases hc with hc | rfl
    · exact ih c hc
    · omega
theorem lst_lt (bs : List Nat) (hb : ∀ c ∈ bs, c < 256) : ∀ c ∈ lst bs, c < 256 := by
  intro c hc
  simp [lst, tl] at hc
  rcases hc with hc | rfl | ⟨_, rfl⟩ | hc
  · exact hb c (List.mem_of_mem_drop hc)
  · omega
  · omega
  · exact be8_lt _ _ c hc
theorem lst_len (bs : List Nat) : (lst bs).length = bs.length % 64 + 1 + zc bs.length + 8 := by
  simp [lst, tl, be8_len]; omega

theorem make128 {i0 : TypeInfo} (hi : Tryd.prog.info? 5 = some i0) (hz0 : i0.zero = some (.int .u8 0)) (hz1 : i0.size = 1) (hz2 : i0.bytes = 1) (cap : Nat) (hc : cap ≤ 1000) (capI : Int) (hcI : capI = (cap : Int)) :
    ∃ MC : Array Value, MC.size = cap ∧ ∀ w, (Instr.makeSlice 39 (.int .i64 0) (.int .i64 capI)).run Tryd.prog w = .ok (.slice (some ⟨w.heap.size, 0, none⟩) 0 cap) (w.alloc (.cells MC 5)) := by
  subst hcI
  refine ⟨madeCells (Value.int .u8 0).cells (cap * 1), by simpa using size_madeCells _ _, fun w => ?_⟩
  have := run_makeSlice (P := Tryd.prog) w 39 5 i0 (.int .u8 0) Tryd.underlying39 hi hz0 .i64 .i64 0 (cap : Int) (by decide) (by omega) (by rw [hz1]; omega) (by rw [hz2]; omega) (by omega)
  rw [hz1] at this
  simpa using this

set_option maxHeartbeats 1000000 in
set_option maxRecDepth 100000 in
theorem last_any (A : Option Addr) (n c : Nat) (bs : List Nat) (w : World) (hr : Rd w w.heap.size A n (bys bs)) (hn : (n : Int) ≤ 1000000000) (hc : n ≤ c) :
    Calls Tryd.prog 28 #[.slice A n c] w fun e w' => ∃ A' n' c', e = .returned (.slice A' n' c') ∧ n' = (lst bs).length ∧ n' ≤ c' ∧ c' ≤ maxLen ∧ Rd w' w'.heap.size A' n' (bys (lst bs)) ∧ Below w.heap.size w w' := by
  obtain ⟨i0, hi5, hz0, hz1, hz2⟩ := info_parts Tryd.info5
  obtain ⟨MC, hMC, hmk⟩ := make128 hi5 hz0 hz1 hz2 128 (by omega) 128 rfl
  have hlen : bs.length = n := by have := hr.1; rwa [bys_len] at this
  have HLEN := Lib.hid hlen
  have HMC := Lib.hid hMC
  clear hMC hlen
  have hsl := fun wx => run_slice_l (P := Tryd.prog) wx 39 5 i0 Tryd.underlying39 hi5 hz1 A n c (n - n % 64) (by omega) .i64 ((n : Int) - (n : Int) % 64) (by omega)
  have hrd := hr.drop (n - n % 64) c (by omega) hc
  generalize (if c = n - n % 64 then A else A.map (·.add (n - n % 64))) = A2 at *
  have e64 : n - (n - n % 64) = n % 64 := by omega
  rw [e64] at hsl hrd
  rw [← bys_drop] at hrd
  have HRD := Lib.hid hrd
  clear hrd e64
  have hown : Buf (w.alloc (.cells MC 5)) w.heap.size (.slice (some ⟨w.heap.size, 0, none⟩) 0 128) 0 [] :=
    Buf.of_own (World.ownsRow_made w (base := w.heap.size) (e := 5) (size := 1) MC 128 (Nat.le_refl _) (by unfold maxLen; omega) (by rw [HMC.out]))
  have hb0 : Below w.heap.size w (w.alloc (.cells MC 5)) := (Below.refl _ _).alloc (Nat.le_refl _) _
  have hrd1 := HRD.out.below hb0
  have hn0 : (0 : Int) ≤ (n : Int) - (n : Int) % 64 := by omega
  have hm64 : n % 64 < 64 := by omega
  go_enter Tryd.func28, Tryd.ntmps28
  go_wp2_with (at_builtin; refine wpList_append_buf _ rfl (.tmp 7) (.tmp 15) 39 rfl w.heap.size 5 i0 (.int .u8 0) 1 Tryd.underlying39 hi5 hz0 hz1 hz2 rfl rfl hown rfl hrd1 (bys_one _) ?b1 ?b2 (by simp) ?next)
  case b1 => unfold maxLen; omega
  case b2 => omega
  case next =>
    intro v1 w1 r1 r2 r3
    have hb1 : Below w.heap.size w w1 := hb0.trans ((Below.refl _ _).grown r2 (by simp) fun k hk => (hown.lt k hk).1)
    have hs1 := hb1.size
    have r1' : Buf w1 w.heap.size v1 (n % 64) (bys (bs.drop (n - n % 64))) := by simpa using r1
    clear r1 r2 r3 hown hsl hmk hrd1
    go_wp2_with (at_builtin; refine wpList_append_one _ rfl (.tmp 17) (.tmp 18) 39 rfl w.heap.size 5 i0 (.int .u8 0) 1 Tryd.underlying39 hi5 hz0 hz1 hz2 rfl rfl r1' rfl rfl ?b3 ?b4 hs1 ?next2)
    case b3 => unfold maxLen; omega
    case b4 => omega
    case next2 =>
      intro v2 w2 r1 r2 r3
      have hl2 : Laid w1 w.heap.size v1 w2 v2 (n % 64 + 1) _ := ⟨r1, r2, r3⟩
      have hb2 : Below w.heap.size w w2 := hb1.trans (hl2.below r1' hs1)
      have hbf2 : Buf w2 w.heap.size v2 (n % 64 + 1 + 0) (bys (bs.drop (n - n % 64) ++ 128 :: List.replicate 0 0)) := by
        have := hl2.buf
        rw [bys_app]; exact this
      clear r1 r2 r3 hl2 r1' hb1 hs1
      go_wp2_with fail
      go_loopg [3] (zc n) (fun k v wr => ∃ j, k = zc n - j ∧ j ≤ zc n ∧ Below w.heap.size w wr ∧ Buf wr w.heap.size v (n % 64 + 1 + j) (bys (bs.drop (n - n % 64) ++ 128 :: List.replicate j 0)))
      case atStart => exact ⟨0, rfl, Nat.zero_le _, hb2, hbf2⟩
      case round =>
        clear hb2 hbf2
        obtain ⟨j, hk, hj, hbw, hbuf⟩ := hrel
        have hM := Lib.hid hk
        clear hk
        have hws := hbw.size
        obtain ⟨A3, c3, rfl, hc3, hrd3⟩ := hbuf.slice
        have hz := zc_lt n
        by_cases hlt : j < zc n
        · have hne := zc_ne n j hlt
          have hne' : (((n % 64 + 1 + j : Nat) : Int) % 64 != 56) = true := by rw [bne_iff_ne]; omega
          go_wp2_with (at_builtin; refine wpList_append_one _ rfl (.tmp 24) (.tmp 25) 39 rfl w.heap.size 5 i0 (.int .u8 0) 1 Tryd.underlying39 hi5 hz0 hz1 hz2 rfl rfl hbuf rfl rfl ?b5 ?b6 hws ?next3)
          case b5 => unfold maxLen; omega
          case b6 => omega
          case next3 =>
            intro v4 w4 r1 r2 r3
            have hl4 : Laid wr w.heap.size _ w4 v4 (n % 64 + 1 + j + 1) _ := ⟨r1, r2, r3⟩
            have hb4 := hbw.trans (hl4.below hbuf hws)
            have hbf4 := hl4.buf
            clear r1 r2 r3 hl4
            go_wp2_with fail
            go_roundg (zc n - (j + 1))
            case measure => have := hM.out; omega
            case rel =>
              refine ⟨j + 1, rfl, by omega, hb4, ?_⟩
              rw [List.replicate_succ', ← List.cons_append, ← List.append_assoc, bys_app]
              exact hbf4
        · obtain rfl : j = zc n := by omega
          have heq := zc_eq n
          have hne' : (((n : Int) % 64 + 1 + ((zc n : Nat) : Int)) % 64 != 56) = false := by rw [bne_eq_false_iff_eq]; omega
          go_wp2_with fail
          have hTL : (bs.drop (n - n % 64) ++ 128 :: List.replicate (zc n) 0).length = n % 64 + 1 + zc n := by have := hbuf.1; rwa [bys_len] at this
          have HFIN := Lib.hid (show (bs.drop (n - n % 64) ++ 128 :: List.replicate (zc n) 0) ++ be8 (8 * n) 8 = lst bs by
            unfold lst tl; rw [HLEN.out]; simp)
          clear hrd3 hne'
          generalize hm : n % 64 + 1 + zc n = m at *
          have hmb : m ≤ 200 := by omega
          generalize (bs.drop (n - n % 64) ++ 128 :: List.replicate (zc n) 0) = TT at *
          have HTL := Lib.hid hTL
          clear hTL hm heq hlt hj
          go_loopg [3, 31] 8 (fun k v i wr => ∃ j, k = 8 - j ∧ j ≤ 8 ∧ i = .int .i64 j ∧ Below w.heap.size w wr ∧ Buf wr w.heap.size v (m + j) (bys (TT ++ be8 (8 * n) j)))
          case atStart => exact ⟨0, rfl, Nat.zero_le _, rfl, hbw, by simpa [be8] using hbuf⟩
          case round =>
            clear hbw hbuf hws
            obtain ⟨j, hk, hj, rfl, hbw, hbuf⟩ := hrel
            have hM3 := Lib.hid hk
            clear hk
            have hws := hbw.size
            by_cases hlj : j < 8
            · have hlj' : (j : Int) < 8 := by omega
              have b1 : (0 : Int) ≤ 8 * (7 - (j : Int)) := by omega
              have b2 : 8 * (7 - (j : Int)) ≤ 64 := by omega
              have b6 : (8 * (7 - (j : Int))).toNat = 8 * (7 - j) := by omega
              go_wp2_with (at_builtin; refine wpList_append_one _ rfl (.tmp 34) (.tmp 41) 39 rfl w.heap.size 5 i0 (.int .u8 0) 1 Tryd.underlying39 hi5 hz0 hz1 hz2 rfl rfl hbuf rfl rfl ?b7 ?b8 hws ?next4)
              case b7 => unfold maxLen; omega
              case b8 => omega
              case next4 =>
                intro v4 w4 r1 r2 r3
                have hl4 : Laid wr w.heap.size _ w4 v4 (m + j + 1) _ := ⟨r1, r2, r3⟩
                have hb4 := hbw.trans (hl4.below hbuf hws)
                have hbf4 := hl4.buf
                clear r1 r2 r3 hl4
                go_wp2_with fail
                go_roundg (8 - (j + 1))
                case measure => have := hM3.out; omega
                case rel =>
                  refine ⟨j + 1, rfl, by omega, by go_num, hb4, ?_⟩
                  have e : (((8 * n / 2 ^ (8 * (7 - j)) % 256 : Nat)) : Int) = 8 * (n : Int) / 2 ^ (8 * (7 - j)) % 256 := by simp
                  unfold be8
                  rw [← List.append_assoc, bys_app]
                  unfold bys
                  rw [List.map_cons, List.map_nil, e]
                  exact hbf4
            · obtain rfl : j = 8 := by omega
              have hdec : decide (((8 : Nat) : Int) < 8) = false := by decide
              have hcm := hbuf
              obtain ⟨A5, c5, rfl, hc5, hrd5⟩ := hbuf.slice
              rw [HFIN.out] at hrd5 hcm
              have hfl : m + 8 = (lst bs).length := by have := hcm.1; rw [bys_len] at this; exact this.symm
              have hcmx : c5 ≤ maxLen := hcm.cap_le
              have HX := Lib.hid (show m + 8 = (lst bs).length ∧ m + 8 ≤ c5 ∧ c5 ≤ maxLen ∧ Rd wr wr.heap.size A5 (m + 8) (bys (lst bs)) from ⟨hfl, hc5, hcmx, hrd5⟩)
              clear hfl hcmx hrd5 hcm hc5
              go_wp2_with fail
              go_ret
              obtain ⟨x1, x2, x3, x4⟩ := HX.out
              exact ⟨A5, m + 8, c5, rfl, x1, x2, x3, x4, hbw⟩
end Go.Proofs.YtdppnicbpdjanaaDoor

namespace Go.Proofs.YtdppnicbpdjanaaDoor
set_option linter.unusedSimpArgs false
set_option linter.unusedVariables false
open Go.RowKit

def dgK (K S : List Int) (bs : List Nat) : List Nat := hsh (fld K (fld K S bs (bs.length / 64)) (lst bs) ((lst bs).length / 64))
def dg (bs : List Nat) : List Nat := dgK K0 S0 bs
theorem S0_w : ∀ x ∈ S0, W32 x := by unfold W32; decide
theorem dg_lt (bs : List Nat) : ∀ c ∈ dg bs, c < 256 := hsh_lt _
theorem dg_len (bs : List Nat) : (dg bs).length = 32 := hsh_len _

set_option maxHeartbeats 1000000 in
set_option maxRecDepth 100000 in
theorem sum_any (A : Option Addr) (n c : Nat) (bs : List Nat) (w : World) (hr : Rd w w.heap.size A n (bys bs)) (hb : ∀ c ∈ bs, c < 256) (hn : (n : Int) ≤ 1000000000) (hc : n ≤ c) (hcm : c ≤ maxLen) (ht : TabAt w) :
    Calls Tryd.prog 18 #[.slice A n c] w fun e w' => e = .returned (.agg (bys (dg bs)).toArray) ∧ Below w.heap.size w w' := by
  have hcm' : (c : Int) ≤ 9223372036854775807 := by unfold maxLen at hcm; omega
  have hlen : bs.length = n := by have := hr.1; rwa [bys_len] at this
  have HDG := Lib.hid (show dg bs = hsh (fld K0 (fld K0 S0 bs (n / 64)) (lst bs) ((lst bs).length / 64)) by unfold dg dgK; rw [hlen])
  have HLL := Lib.hid (lst_len bs)
  have HLEN := Lib.hid hlen
  have HB := Lib.hid hb
  have HT := Lib.hid ht
  have hb0 : Below w.heap.size w (w.alloc (.cells ZH 33)) := (Below.refl _ _).alloc (Nat.le_refl _) _
  have bk0 : Blk (w.alloc (.cells ZH 33)) w.heap.size 33 ZH := Blk.new _ _ _
  clear hlen hb ht
  go_enter Tryd.func18, Tryd.ntmps18
  go_wp2_with (first | (refine wpList_of_wp rfl fun K hK => wp_alloc_arr 33 rfl ZH Tryd.zero33 (hK _ _ ?_)))
  refine (start_any _).mono ?_
  rintro e w1 ⟨rfl, hb1⟩
  have h1s := hb1.size
  simp only [World.size_alloc] at h1s
  have hB1 := hb0.trans (hb1.mono (by simp))
  have bk1 := bk0.below hb1 (by simp)
  clear hb1 hb0 bk0
  go_wp2_with fail
  refine (fold_any A n c bs S0 _ ((hr.below hB1).up hB1.size) HB.out hn hc hcm' rfl S0_w (HT.out.below hB1 HT.out.1)).mono ?_
  rintro e w2 ⟨rfl, hb2⟩
  have h2s := hb2.size
  have hB2 := hB1.trans (hb2.mono (by omega))
  have bk2 := bk1.below hb2 (by omega)
  have hl2 := fld_len K0 S0 bs rfl (n / 64)
  have hw2 := fld_w K0 S0 bs S0_w (n / 64)
  have HDG2 := HDG.out
  generalize fld K0 S0 bs (n / 64) = S2 at *
  have HDG3 := Lib.hid HDG2
  have HL2 := Lib.hid hl2
  have HW2 := Lib.hid hw2
  clear hb2 hB1 bk1 HDG2 hl2 hw2
  go_wp2_with fail
  refine (last_any A n c bs _ ((hr.below hB2).up hB2.size) hn hc).mono ?_
  rintro e w3 ⟨A3, n3, c3, rfl, e3, hc3, hm3, hr3, hb3⟩
  have h3s := hb3.size
  have hB3 := hB2.trans (hb3.mono (by omega))
  have bk3 := bk2.below hb3 (by omega)
  have hn3 : (n3 : Int) ≤ 1000000000 := by
    have h5 := HLL.out
    have h6 := zc_lt bs.length
    omega
  have HE3 := Lib.hid e3
  clear hb3 hB2 bk2 e3
  have hm3' : (c3 : Int) ≤ 9223372036854775807 := by unfold maxLen at hm3; omega
  go_wp2_with fail
  refine (fold_any A3 n3 c3 (lst bs) S2 _ hr3 (lst_lt bs HB.out) hn3 hc3 hm3' HL2.out HW2.out (HT.out.below hB3 HT.out.1)).mono ?_
  rintro e w4 ⟨rfl, hb4⟩
  have h4s := hb4.size
  have hB4 := hB3.trans (hb4.mono (by omega))
  have bk4 := bk3.below hb4 (by omega)
  have hl4 := fld_len K0 S2 (lst bs) HL2.out (n3 / 64)
  have hw4 := fld_w K0 S2 (lst bs) HW2.out (n3 / 64)
  have HDG4 := HDG3.out
  rw [← HE3.out] at HDG4
  generalize fld K0 S2 (lst bs) (n3 / 64) = S4 at *
  have HDG5 := Lib.hid HDG4
  clear hb4 hB3 bk3 HDG4 hr3
  have HL4 := Lib.hid hl4
  have HW4 := Lib.hid hw4
  clear hl4 hw4
  go_wp2_with fail
  refine (hash_any S4 HL4.out HW4.out _).mono ?_
  rintro e w5 ⟨rfl, hb5⟩
  have h5s := hb5.size
  have hB5 := hB4.trans (hb5.mono (by omega))
  have bk5 := bk4.below hb5 (by omega)
  have hl5 := hsh_len S4
  have hfin := HDG5.out
  generalize hsh S4 = D at *
  have HFIN := Lib.hid hfin
  have hsz : (bys D).length = 32 := by rw [bys_len]; exact hl5
  have HSZ := Lib.hid hsz
  have HTH := Lib.hid (show w5.there w.heap.size 0 (bys D).toArray.size by
    have := bk5.there
    rw [show (bys D).toArray.size = 32 from hsz]; exact this)
  clear hsz hl5 hfin hb5 hB4 bk4
  go_wp2_with (refine wpList_store_mid rfl 33 (.tmp 2) (.tmp 9) rfl w.heap.size 0 (bys D).toArray rfl rfl HTH.out (by rw [show (bys D).toArray.size = 32 from HSZ.out]; exact Tryd.size33) (all_oneCell_toArray (bys_one _)) ?_)
  exact bodyPost_ret (results_arr rfl _ _ w.heap.size (bys D) _ rfl (World.rangeAt_setCells_same _ _ _ _ (by simpa using HTH.out)) Tryd.underlying33 rfl (by rw [HSZ.out]; exact Tryd.size33)) rfl ⟨by rw [HFIN.out], Below.setCells' hB5 _ _ (Nat.le_refl _) _⟩
end Go.Proofs.YtdppnicbpdjanaaDoor

namespace Go.Proofs.YtdppnicbpdjanaaDoor
set_option linter.unusedSimpArgs false
set_option linter.unusedVariables false
open Go.RowKit

theorem Blk.rd {w : World} {g : Nat} {t : TypeId} {l : List Value} (h : Blk w g t l.toArray) (n : Nat) (hn : l.length = n) : Rd w w.heap.size (some ⟨g, 0, none⟩) n l :=
  ⟨hn, fun _ => ⟨g, 0, rfl, h.lt, fun j u hu => by rw [Nat.zero_add]; exact h.cell j u hu⟩⟩

set_option maxHeartbeats 1000000 in
set_option maxRecDepth 100000 in
theorem double_any (A : Option Addr) (n c : Nat) (bs : List Nat) (w : World) (hr : Rd w w.heap.size A n (bys bs)) (hb : ∀ c ∈ bs, c < 256) (hn : (n : Int) ≤ 1000000000) (hc : n ≤ c) (hcm : c ≤ maxLen) (ht : TabAt w) :
    Calls Tryd.prog 10 #[.slice A n c] w fun e w' => e = .returned (.agg (bys (dg (dg bs))).toArray) ∧ Below w.heap.size w w' := by
  have HB := Lib.hid hb
  have HT := Lib.hid ht
  have hb0 : Below w.heap.size w (w.alloc (.cells ZH 33)) := (Below.refl _ _).alloc (Nat.le_refl _) _
  have bk0 : Blk (w.alloc (.cells ZH 33)) w.heap.size 33 ZH := Blk.new _ _ _
  clear hb ht
  go_enter Tryd.func10, Tryd.ntmps10
  go_wp2_with (first | (refine wpList_of_wp rfl fun K hK => wp_alloc_arr 33 rfl ZH Tryd.zero33 (hK _ _ ?_)))
  refine (sum_any A n c bs _ ((hr.below hb0).up (by simp)) HB.out hn hc hcm (HT.out.below hb0 HT.out.1)).mono ?_
  rintro e w1 ⟨rfl, hb1⟩
  have h1s := hb1.size
  simp only [World.size_alloc] at h1s
  have hB1 := hb0.trans (hb1.mono (by simp))
  have bk1 := bk0.below hb1 (by simp)
  clear hb1 hb0 bk0
  have hdl := dg_lt bs
  have hdn := dg_len bs
  obtain ⟨D, eD⟩ : ∃ D, dg bs = D := ⟨_, rfl⟩
  rw [eD] at hdl hdn ⊢
  have HD := Lib.hid eD
  clear eD
  have HDL := Lib.hid hdl
  have hsz : (bys D).length = 32 := by rw [bys_len]; exact hdn
  have HSZ := Lib.hid hsz
  have HTN := Lib.hid (there_new w1 ZH 33 (bys D).toArray.size (by rw [ZH_size]; exact hsz.symm))
  have bk2 : Blk ((w1.alloc (.cells ZH 33)).setCells w1.heap.size 0 (bys D)) w1.heap.size 33 (bys D).toArray := (Blk.new w1 33 ZH).stored (bys D) (by rw [ZH_size]; exact hsz)
  have bk3 : Blk ((w1.alloc (.cells ZH 33)).setCells w1.heap.size 0 (bys D)) w.heap.size 33 ZH := (bk1.alloc _).setCells _ _ _ (by omega)
  have hB2 : Below w.heap.size w ((w1.alloc (.cells ZH 33)).setCells w1.heap.size 0 (bys D)) := Below.setCells' (hB1.alloc (by omega) _) _ _ (by omega) _
  clear hdl hdn hsz bk1 hB1
  go_wp2_with (first
    | (refine wpList_of_wp rfl fun K hK => wp_alloc_arr 33 rfl ZH Tryd.zero33 (hK _ _ ?_))
    | (refine wpList_store_mid rfl 33 (.tmp 3) (.tmp 5) rfl w1.heap.size 0 (bys D).toArray rfl rfl HTN.out (by rw [show (bys D).toArray.size = 32 from HSZ.out]; exact Tryd.size33) (all_oneCell_toArray (bys_one _)) ?_))
  change Calls _ _ _ ((w1.alloc (.cells ZH 33)).setCells w1.heap.size 0 (bys D)) _
  generalize (w1.alloc (.cells ZH 33)).setCells w1.heap.size 0 (bys D) = W2 at *
  refine (sum_any _ 32 32 D _ (bk2.rd 32 HSZ.out) HDL.out (by omega) (by omega) (by unfold maxLen; omega) (HT.out.below hB2 HT.out.1)).mono ?_
  rintro e w5 ⟨rfl, hb5⟩
  have h5s := hb5.size
  have h6s := hB2.size
  have hB5 := hB2.trans (hb5.mono (by omega))
  have bk5 := bk3.below hb5 (by have := bk3.lt; omega)
  have hdn := dg_len D
  obtain ⟨D2, eD⟩ : ∃ D2, dg D = D2 := ⟨_, rfl⟩
  rw [eD] at hdn ⊢
  have HD2 := Lib.hid eD
  clear eD
  have hsz : (bys D2).length = 32 := by rw [bys_len]; exact hdn
  have HSZ2 := Lib.hid hsz
  have HTH := Lib.hid (show w5.there w.heap.size 0 (bys D2).toArray.size by
    have := bk5.there
    rw [show (bys D2).toArray.size = 32 from hsz]; exact this)
  clear hsz hdn hb5 hB2 bk3 bk2
  go_wp2_with (refine wpList_store_mid rfl 33 (.tmp 2) (.tmp 7) rfl w.heap.size 0 (bys D2).toArray rfl rfl HTH.out (by rw [show (bys D2).toArray.size = 32 from HSZ2.out]; exact Tryd.size33) (all_oneCell_toArray (bys_one _)) ?_)
  exact bodyPost_ret (results_arr rfl _ _ w.heap.size (bys D2) _ rfl (World.rangeAt_setCells_same _ _ _ _ (by simpa using HTH.out)) Tryd.underlying33 rfl (by rw [HSZ2.out]; exact Tryd.size33)) rfl ⟨by rw [HD.out, HD2.out], Below.setCells' hB5 _ _ (Nat.le_refl _) _⟩

end Go.Proofs.YtdppnicbpdjanaaDoor
