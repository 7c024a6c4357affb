/- Walks of the reference: right, parts, times, over. -/
import Derived.Test.YtkokbpifjpmhlaaDoorD9
import Derived.Test.YtkokbpifjpmhlaaDoorRM
namespace Go.Proofs.YtkokbpifjpmhlaaDoor
set_option linter.unusedSimpArgs false
set_option linter.unusedVariables false
open Go.RowKit

theorem or_rl2 (x : Int) (h : W32 x) : bits .or .u32 (x / 4) (x * 1073741824 % 4294967296) = rr 4 1073741824 x := by
  rw [← or_rr2 x h]
  unfold W32 at h
  rw [u32_or _ _ (by omega) (by omega) (by omega) (by omega), u32_or _ _ (by omega) (by omega) (by omega) (by omega), Nat.or_comm]
set_option maxHeartbeats 400000 in
set_option maxRecDepth 100000 in
theorem refright2_any (x : Int) (h : W32 x) (w : World) :
    Calls Tryd.prog 41 #[.int .u32 x, .int .u64 2] w fun e w' => e = .returned (.int .u32 (rr 4 1073741824 x)) ∧ w = w' := by
  have h0 := h.1
  have h1 := h.2
  have H := Lib.hid h
  clear h
  go_enter Tryd.func41, Tryd.ntmps41
  go_wp2
  go_ret
  exact ⟨congrArg (fun z => Ending.returned (.int .u32 z)) (or_rl2 x H.out), rfl⟩
theorem or_rl6 (x : Int) (h : W32 x) : bits .or .u32 (x / 64) (x * 67108864 % 4294967296) = rr 64 67108864 x := by
  rw [← or_rr6 x h]
  unfold W32 at h
  rw [u32_or _ _ (by omega) (by omega) (by omega) (by omega), u32_or _ _ (by omega) (by omega) (by omega) (by omega), Nat.or_comm]
set_option maxHeartbeats 400000 in
set_option maxRecDepth 100000 in
theorem refright6_any (x : Int) (h : W32 x) (w : World) :
    Calls Tryd.prog 41 #[.int .u32 x, .int .u64 6] w fun e w' => e = .returned (.int .u32 (rr 64 67108864 x)) ∧ w = w' := by
  have h0 := h.1
  have h1 := h.2
  have H := Lib.hid h
  clear h
  go_enter Tryd.func41, Tryd.ntmps41
  go_wp2
  go_ret
  exact ⟨congrArg (fun z => Ending.returned (.int .u32 z)) (or_rl6 x H.out), rfl⟩
theorem or_rl7 (x : Int) (h : W32 x) : bits .or .u32 (x / 128) (x * 33554432 % 4294967296) = rr 128 33554432 x := by
  rw [← or_rr7 x h]
  unfold W32 at h
  rw [u32_or _ _ (by omega) (by omega) (by omega) (by omega), u32_or _ _ (by omega) (by omega) (by omega) (by omega), Nat.or_comm]
set_option maxHeartbeats 400000 in
set_option maxRecDepth 100000 in
theorem refright7_any (x : Int) (h : W32 x) (w : World) :
    Calls Tryd.prog 41 #[.int .u32 x, .int .u64 7] w fun e w' => e = .returned (.int .u32 (rr 128 33554432 x)) ∧ w = w' := by
  have h0 := h.1
  have h1 := h.2
  have H := Lib.hid h
  clear h
  go_enter Tryd.func41, Tryd.ntmps41
  go_wp2
  go_ret
  exact ⟨congrArg (fun z => Ending.returned (.int .u32 z)) (or_rl7 x H.out), rfl⟩
theorem or_rl11 (x : Int) (h : W32 x) : bits .or .u32 (x / 2048) (x * 2097152 % 4294967296) = rr 2048 2097152 x := by
  rw [← or_rr11 x h]
  unfold W32 at h
  rw [u32_or _ _ (by omega) (by omega) (by omega) (by omega), u32_or _ _ (by omega) (by omega) (by omega) (by omega), Nat.or_comm]
set_option maxHeartbeats 400000 in
set_option maxRecDepth 100000 in
theorem refright11_any (x : Int) (h : W32 x) (w : World) :
    Calls Tryd.prog 41 #[.int .u32 x, .int .u64 11] w fun e w' => e = .returned (.int .u32 (rr 2048 2097152 x)) ∧ w = w' := by
  have h0 := h.1
  have h1 := h.2
  have H := Lib.hid h
  clear h
  go_enter Tryd.func41, Tryd.ntmps41
  go_wp2
  go_ret
  exact ⟨congrArg (fun z => Ending.returned (.int .u32 z)) (or_rl11 x H.out), rfl⟩
theorem or_rl13 (x : Int) (h : W32 x) : bits .or .u32 (x / 8192) (x * 524288 % 4294967296) = rr 8192 524288 x := by
  rw [← or_rr13 x h]
  unfold W32 at h
  rw [u32_or _ _ (by omega) (by omega) (by omega) (by omega), u32_or _ _ (by omega) (by omega) (by omega) (by omega), Nat.or_comm]
set_option maxHeartbeats 400000 in
set_option maxRecDepth 100000 in
theorem refright13_any (x : Int) (h : W32 x) (w : World) :
    Calls Tryd.prog 41 #[.int .u32 x, .int .u64 13] w fun e w' => e = .returned (.int .u32 (rr 8192 524288 x)) ∧ w = w' := by
  have h0 := h.1
  have h1 := h.2
  have H := Lib.hid h
  clear h
  go_enter Tryd.func41, Tryd.ntmps41
  go_wp2
  go_ret
  exact ⟨congrArg (fun z => Ending.returned (.int .u32 z)) (or_rl13 x H.out), rfl⟩
theorem or_rl17 (x : Int) (h : W32 x) : bits .or .u32 (x / 131072) (x * 32768 % 4294967296) = rr 131072 32768 x := by
  rw [← or_rr17 x h]
  unfold W32 at h
  rw [u32_or _ _ (by omega) (by omega) (by omega) (by omega), u32_or _ _ (by omega) (by omega) (by omega) (by omega), Nat.or_comm]
set_option maxHeartbeats 400000 in
set_option maxRecDepth 100000 in
theorem refright17_any (x : Int) (h : W32 x) (w : World) :
    Calls Tryd.prog 41 #[.int .u32 x, .int .u64 17] w fun e w' => e = .returned (.int .u32 (rr 131072 32768 x)) ∧ w = w' := by
  have h0 := h.1
  have h1 := h.2
  have H := Lib.hid h
  clear h
  go_enter Tryd.func41, Tryd.ntmps41
  go_wp2
  go_ret
  exact ⟨congrArg (fun z => Ending.returned (.int .u32 z)) (or_rl17 x H.out), rfl⟩
theorem or_rl18 (x : Int) (h : W32 x) : bits .or .u32 (x / 262144) (x * 16384 % 4294967296) = rr 262144 16384 x := by
  rw [← or_rr18 x h]
  unfold W32 at h
  rw [u32_or _ _ (by omega) (by omega) (by omega) (by omega), u32_or _ _ (by omega) (by omega) (by omega) (by omega), Nat.or_comm]
set_option maxHeartbeats 400000 in
set_option maxRecDepth 100000 in
theorem refright18_any (x : Int) (h : W32 x) (w : World) :
    Calls Tryd.prog 41 #[.int .u32 x, .int .u64 18] w fun e w' => e = .returned (.int .u32 (rr 262144 16384 x)) ∧ w = w' := by
  have h0 := h.1
  have h1 := h.2
  have H := Lib.hid h
  clear h
  go_enter Tryd.func41, Tryd.ntmps41
  go_wp2
  go_ret
  exact ⟨congrArg (fun z => Ending.returned (.int .u32 z)) (or_rl18 x H.out), rfl⟩
theorem or_rl19 (x : Int) (h : W32 x) : bits .or .u32 (x / 524288) (x * 8192 % 4294967296) = rr 524288 8192 x := by
  rw [← or_rr19 x h]
  unfold W32 at h
  rw [u32_or _ _ (by omega) (by omega) (by omega) (by omega), u32_or _ _ (by omega) (by omega) (by omega) (by omega), Nat.or_comm]
set_option maxHeartbeats 400000 in
set_option maxRecDepth 100000 in
theorem refright19_any (x : Int) (h : W32 x) (w : World) :
    Calls Tryd.prog 41 #[.int .u32 x, .int .u64 19] w fun e w' => e = .returned (.int .u32 (rr 524288 8192 x)) ∧ w = w' := by
  have h0 := h.1
  have h1 := h.2
  have H := Lib.hid h
  clear h
  go_enter Tryd.func41, Tryd.ntmps41
  go_wp2
  go_ret
  exact ⟨congrArg (fun z => Ending.returned (.int .u32 z)) (or_rl19 x H.out), rfl⟩
theorem or_rl22 (x : Int) (h : W32 x) : bits .or .u32 (x / 4194304) (x * 1024 % 4294967296) = rr 4194304 1024 x := by
  rw [← or_rr22 x h]
  unfold W32 at h
  rw [u32_or _ _ (by omega) (by omega) (by omega) (by omega), u32_or _ _ (by omega) (by omega) (by omega) (by omega), Nat.or_comm]
set_option maxHeartbeats 400000 in
set_option maxRecDepth 100000 in
theorem refright22_any (x : Int) (h : W32 x) (w : World) :
    Calls Tryd.prog 41 #[.int .u32 x, .int .u64 22] w fun e w' => e = .returned (.int .u32 (rr 4194304 1024 x)) ∧ w = w' := by
  have h0 := h.1
  have h1 := h.2
  have H := Lib.hid h
  clear h
  go_enter Tryd.func41, Tryd.ntmps41
  go_wp2
  go_ret
  exact ⟨congrArg (fun z => Ending.returned (.int .u32 z)) (or_rl22 x H.out), rfl⟩
theorem or_rl25 (x : Int) (h : W32 x) : bits .or .u32 (x / 33554432) (x * 128 % 4294967296) = rr 33554432 128 x := by
  rw [← or_rr25 x h]
  unfold W32 at h
  rw [u32_or _ _ (by omega) (by omega) (by omega) (by omega), u32_or _ _ (by omega) (by omega) (by omega) (by omega), Nat.or_comm]
set_option maxHeartbeats 400000 in
set_option maxRecDepth 100000 in
theorem refright25_any (x : Int) (h : W32 x) (w : World) :
    Calls Tryd.prog 41 #[.int .u32 x, .int .u64 25] w fun e w' => e = .returned (.int .u32 (rr 33554432 128 x)) ∧ w = w' := by
  have h0 := h.1
  have h1 := h.2
  have H := Lib.hid h
  clear h
  go_enter Tryd.func41, Tryd.ntmps41
  go_wp2
  go_ret
  exact ⟨congrArg (fun z => Ending.returned (.int .u32 z)) (or_rl25 x H.out), rfl⟩

def dw (l : List Nat) : List Value := l.map fun (c : Nat) => Value.int .u64 (c : Int)
theorem dw_len (l : List Nat) : (dw l).length = l.length := by simp [dw]
theorem dw_get (l : List Nat) (k : Nat) (h : k < l.length) : (dw l)[k]? = some (.int .u64 ((l.getD k 0 : Nat) : Int)) := by simp [dw, h, List.getD]
theorem dw_set (l : List Nat) (k v : Nat) : (dw l).set k (.int .u64 (v : Int)) = dw (l.set k v) := by simp [dw, List.map_set]
theorem dw_app (a b : List Nat) : dw (a ++ b) = dw a ++ dw b := by simp [dw]

set_option maxHeartbeats 400000 in
set_option maxRecDepth 100000 in
theorem parts_any (x : Int) (n : Nat) (hx : x = (n : Int)) (hn : (n : Int) < 281474976710656) (w : World) :
    Calls Tryd.prog 33 #[.int .u64 x] w fun e w' => e = .returned (.slice (some ⟨w.heap.size, 0, none⟩) 3 3) ∧ Blk w' w.heap.size 31 (dw (L.prs n)).toArray ∧ Below w.heap.size w w' := by
  subst hx
  have hB := Lib.hid (show Blk (w.alloc (.cells (dw (L.prs n)).toArray 31)) w.heap.size 31 (dw (L.prs n)).toArray ∧ Below w.heap.size w (w.alloc (.cells (dw (L.prs n)).toArray 31)) from ⟨Blk.new _ _ _, (Below.refl _ _).alloc (Nat.le_refl _) _⟩)
  go_enter Tryd.func33, Tryd.ntmps33
  go_wp2
  go_ret
  refine ⟨rfl, ?_⟩
  have := hB.out
  simpa [dw, L.prs] using this
end Go.Proofs.YtkokbpifjpmhlaaDoor
