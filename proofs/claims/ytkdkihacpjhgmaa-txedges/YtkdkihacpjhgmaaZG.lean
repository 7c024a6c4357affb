/- The walk of the law on bounds. -/
import Derived.Test.YtkdkihacpjhgmaaZF
namespace Go.Proofs.Ytkdkihacpjhgmaa
set_option linter.unusedSimpArgs false
set_option linter.unusedVariables false
open Go.RowKit

def T0 (g0 g1 : Nat) : MTx := ⟨0, [ZM], some ⟨g0, 0, none⟩, 1, [ZO], some ⟨g1, 0, none⟩, 1, 0⟩
/-- What stands ahead of the switch: an input's row, an output's row, the box. -/
structure EdB (w wx : World) (b : Nat) : Prop where
  bw : Below w.heap.size w wx
  r0 : wx.rangeAt b 0 ZIN
  f0 : ∀ o, wx.frozen? ⟨b, o, none⟩ = false
  r1 : wx.rangeAt (b + 1) 0 ZO.cells
  f1 : ∀ o, wx.frozen? ⟨b + 1, o, none⟩ = false
  box : Bx4 wx (b + 1 + 1) (.int .i32 0) (.slice (some ⟨b, 0, none⟩) 1 1) (.slice (some ⟨b + 1, 0, none⟩) 1 1) (.int .u32 0)
  bl : w.heap.size ≤ b
  bs : wx.heap.size = b + 3
theorem rdN_one {w : World} {g B s : Nat} {C : List Value} (h : w.rangeAt g 0 C) (hC : C.length = s) (hg : g < B) : RdN w B s (some ⟨g, 0, none⟩) 1 C :=
  ⟨by rw [hC, Nat.one_mul], fun _ => ⟨g, 0, rfl, hg, fun j u hu => h j u hu⟩⟩
theorem EdB.keep {w wx wy : World} {b : Nat} (h : EdB w wx b) (t : Below wx.heap.size wx wy) :
    Below w.heap.size w wy ∧ wy.rangeAt b 0 ZIN ∧ wy.rangeAt (b + 1) 0 ZO.cells ∧ Bx4 wy (b + 1 + 1) (.int .i32 0) (.slice (some ⟨b, 0, none⟩) 1 1) (.slice (some ⟨b + 1, 0, none⟩) 1 1) (.int .u32 0) := by
  have hb := h.bs
  exact ⟨h.bw.trans (t.mono h.bw.size), rangeAt_below h.r0 t (by omega), rangeAt_below h.r1 t (by omega), h.box.keep (t.block _ (by omega))⟩
theorem ZMs_at (w : World) (B n : Nat) : ∀ x ∈ List.replicate n ZM, InAt w B x := fun x hx => by rw [List.eq_of_mem_replicate hx]; exact ZM_at w B
theorem ZOs_ok (n : Nat) : ∀ x ∈ List.replicate n ZO, x.ok := fun x hx => by rw [List.eq_of_mem_replicate hx]; exact ZO_ok
def E0 (b g n : Nat) : MTx := ⟨0, List.replicate n ZM, some ⟨g, 0, none⟩, n, [ZO], some ⟨b + 1, 0, none⟩, 1, 0⟩
def E1 (b g n : Nat) : MTx := ⟨0, [ZM], some ⟨b, 0, none⟩, 1, List.replicate n ZO, some ⟨g, 0, none⟩, n, 0⟩
def E2 (b g n : Nat) : MTx := ⟨0, [⟨{ ZI with wit := List.replicate n [] }, some ⟨g, 0, none⟩, n⟩], some ⟨b, 0, none⟩, 1, [ZO], some ⟨b + 1, 0, none⟩, 1, 0⟩
def E3 (b n : Nat) : MTx := ⟨0, [ZM], some ⟨b, 0, none⟩, 1, [⟨0, List.replicate n 0⟩], some ⟨b + 1, 0, none⟩, 1, 0⟩
theorem e0_p (b g n : Nat) : (E0 b g n).p = Ed0 n := by simp [E0, Ed0, MTx.p, ZM]
theorem e1_p (b g n : Nat) : (E1 b g n).p = Ed1 n := by simp [E1, Ed1, MTx.p, ZM]
theorem e2_p (b g n : Nat) : (E2 b g n).p = Ed2 n := rfl
theorem e3_p (b n : Nat) : (E3 b n).p = Ed3 n := rfl
section
variable {w W : World} {b : Nat}
theorem EdB.e0 (h : EdB w W b) (n : Nat) (hn : n ≤ 2000) : EdS w ((W.alloc (.cells ((List.replicate n ZM).flatMap MIn.cells).toArray 58)).setCell ⟨b + 1 + 1, 1, none⟩ (.slice (some ⟨W.heap.size, 0, none⟩) n n)) (b + 1 + 1) (E0 b W.heap.size n) := by
  obtain ⟨k1, k2, k3, k4⟩ := h.keep ((Below.refl W.heap.size W).alloc (Nat.le_refl _) (.cells ((List.replicate n ZM).flatMap MIn.cells).toArray 58))
  have hr : RdN (W.alloc (.cells ((List.replicate n ZM).flatMap MIn.cells).toArray 58)) (W.heap.size + 1) 36 (some ⟨W.heap.size, 0, none⟩) n ((List.replicate n ZM).flatMap MIn.cells) :=
    RdN.new W 36 n _ 58 (0, 0) (by rw [flat_len MIn.cells 36 _ (fun x hx => by rw [List.eq_of_mem_replicate hx]; exact ZIN_len), List.length_replicate])
  have hs : (W.alloc (.cells ((List.replicate n ZM).flatMap MIn.cells).toArray 58)).heap.size = W.heap.size + 1 := by simp
  have hb := h.bs
  have hl := h.bl
  generalize (W.alloc (.cells ((List.replicate n ZM).flatMap MIn.cells).toArray 58)) = X at *
  have t2 : Tch X (X.setCell ⟨b + 1 + 1, 1, none⟩ (.slice (some ⟨W.heap.size, 0, none⟩) n n)) [b + 1 + 1] := Tch.of_grown (grown_setCell _ _ _) (by simp)
  have kb := k4.set1 (.slice (some ⟨W.heap.size, 0, none⟩) n n)
  generalize (X.setCell ⟨b + 1 + 1, 1, none⟩ (.slice (some ⟨W.heap.size, 0, none⟩) n n)) = Y at *
  have hys := t2.size
  refine ⟨k1.trans (t2.below k1.size (by simp; omega)), by simpa [E0] using kb, ⟨?_, ?_, ?_, ?_, by simp [E0], by simp [E0], by simp [E0], by simp [E0], by simp [E0]; omega, by simp [E0], by simp [E0]⟩, by omega, by simp [E0]; omega, by simp [E0]⟩
  · show RdN Y Y.heap.size 36 (some ⟨W.heap.size, 0, none⟩) (List.replicate n ZM).length ((List.replicate n ZM).flatMap MIn.cells)
    rw [List.length_replicate]
    exact ⟨hr.len, fun h0 => by
      obtain ⟨g, off, e, hg, hc⟩ := hr.at_ h0
      injection e with e
      injection e with e1 e2
      subst e1
      refine ⟨W.heap.size, off, by rw [e2], by omega, fun j u hu => ?_⟩
      have := hc j u hu
      rw [← this]
      simp only [World.cell?]
      rw [t2.block _ (by omega) (by simp; omega)]⟩
  · exact rdN_one (s := 2) (fun j u hu => by
      have := k3 j u hu
      rw [← this]
      simp only [World.cell?]
      rw [t2.block _ (by omega) (by simp)]) rfl (by omega)
  · exact ZMs_at _ _ n
  · intro o ho; simp [E0] at ho; subst ho; exact ZO_ok
theorem RdN.tch {X Y : World} {B s n g' : Nat} {A : Option Addr} {xs : List Value} (h : RdN X B s A n xs) (t : Tch X Y [g']) (hB : B ≤ X.heap.size) (hne : ∀ g off, A = some ⟨g, off, none⟩ → g ≠ g') : RdN Y B s A n xs :=
  ⟨h.len, fun h0 => by
    obtain ⟨g, off, e, hg, hc⟩ := h.at_ h0
    refine ⟨g, off, e, hg, fun j u hu => ?_⟩
    rw [← hc j u hu]
    simp only [World.cell?]
    rw [t.block _ (by omega) (by simp; exact hne g off e)]⟩
theorem range_tch {X Y : World} {g g' : Nat} {C : List Value} (h : X.rangeAt g 0 C) (t : Tch X Y [g']) (hg : g < X.heap.size) (hne : g ≠ g') : Y.rangeAt g 0 C := fun j u hu => by
  rw [← h j u hu]
  simp only [World.cell?]
  rw [t.block _ hg (by simpa using hne)]
theorem range_set {X : World} {g k : Nat} {C : List Value} (h : X.rangeAt g 0 C) (hk : k < C.length) (v : Value) : (X.setCell ⟨g, k, none⟩ v).rangeAt g 0 (C.set k v) := fun j u hu => by
  rw [List.getElem?_set] at hu
  by_cases e : k = j
  · subst e
    rw [if_pos rfl, if_pos hk] at hu
    injection hu with hu
    subst hu
    have := h k _ (List.getElem?_eq_getElem hk)
    rw [Nat.zero_add] at this ⊢
    exact World.cell?_setCell_same _ _ _ this
  · rw [if_neg e] at hu
    have := h j u hu
    rw [Nat.zero_add] at this ⊢
    rw [set_other X g k j v (by omega)]
    exact this
theorem EdB.e1 (h : EdB w W b) (n : Nat) (hn : n ≤ 2000) : EdS w ((W.alloc (.cells ((List.replicate n ZO).flatMap TOut.cells).toArray 49)).setCell ⟨b + 1 + 1, 2, none⟩ (.slice (some ⟨W.heap.size, 0, none⟩) n n)) (b + 1 + 1) (E1 b W.heap.size n) := by
  obtain ⟨k1, k2, k3, k4⟩ := h.keep ((Below.refl W.heap.size W).alloc (Nat.le_refl _) (.cells ((List.replicate n ZO).flatMap TOut.cells).toArray 49))
  have hr : RdN (W.alloc (.cells ((List.replicate n ZO).flatMap TOut.cells).toArray 49)) (W.heap.size + 1) 2 (some ⟨W.heap.size, 0, none⟩) n ((List.replicate n ZO).flatMap TOut.cells) :=
    RdN.new W 2 n _ 49 (0, 0) (by rw [flat_len TOut.cells 2 _ (fun x hx => rfl), List.length_replicate])
  have hs : (W.alloc (.cells ((List.replicate n ZO).flatMap TOut.cells).toArray 49)).heap.size = W.heap.size + 1 := by simp
  have hb := h.bs
  have hl := h.bl
  generalize (W.alloc (.cells ((List.replicate n ZO).flatMap TOut.cells).toArray 49)) = X at *
  have t2 : Tch X (X.setCell ⟨b + 1 + 1, 2, none⟩ (.slice (some ⟨W.heap.size, 0, none⟩) n n)) [b + 1 + 1] := Tch.of_grown (grown_setCell _ _ _) (by simp)
  have kb := k4.set2 (.slice (some ⟨W.heap.size, 0, none⟩) n n)
  generalize (X.setCell ⟨b + 1 + 1, 2, none⟩ (.slice (some ⟨W.heap.size, 0, none⟩) n n)) = Y at *
  have hys := t2.size
  refine ⟨k1.trans (t2.below k1.size (by simp; omega)), by simpa [E1] using kb, ⟨?_, ?_, ?_, ?_, by simp [E1], by simp [E1], by simp [E1], by simp [E1], by simp [E1], by simp [E1], by simp [E1]; omega⟩, by omega, by simp [E1], by simp [E1]; omega⟩
  · exact rdN_one (s := 36) (range_tch k2 t2 (by omega) (by omega)) ZIN_len (by omega)
  · show RdN Y Y.heap.size 2 (some ⟨W.heap.size, 0, none⟩) (List.replicate n ZO).length ((List.replicate n ZO).flatMap TOut.cells)
    rw [List.length_replicate]
    exact (hr.tch t2 (by omega) (fun g off e => by injection e with e; injection e with e1 e2; omega)).up (by omega)
  · intro x hx; simp [E1] at hx; subst hx; exact ZM_at _ _
  · exact ZOs_ok n
theorem EdB.e2 (h : EdB w W b) (n : Nat) (hn : n ≤ 2000) : EdS w ((W.alloc (.cells (strs (List.replicate n [])).toArray 9)).setCell ⟨b, 35, none⟩ (.slice (some ⟨W.heap.size, 0, none⟩) n n)) (b + 1 + 1) (E2 b W.heap.size n) := by
  obtain ⟨k1, k2, k3, k4⟩ := h.keep ((Below.refl W.heap.size W).alloc (Nat.le_refl _) (.cells (strs (List.replicate n [])).toArray 9))
  have hr : RdN (W.alloc (.cells (strs (List.replicate n [])).toArray 9)) (W.heap.size + 1) 1 (some ⟨W.heap.size, 0, none⟩) n (strs (List.replicate n [])) :=
    RdN.new W 1 n _ 9 (0, 0) (by simp [strs])
  have hs : (W.alloc (.cells (strs (List.replicate n [])).toArray 9)).heap.size = W.heap.size + 1 := by simp
  have hb := h.bs
  have hl := h.bl
  generalize (W.alloc (.cells (strs (List.replicate n [])).toArray 9)) = X at *
  have t2 : Tch X (X.setCell ⟨b, 35, none⟩ (.slice (some ⟨W.heap.size, 0, none⟩) n n)) [b] := Tch.of_grown (grown_setCell _ _ _) (by simp)
  have kr := range_set k2 (k := 35) (by rw [ZIN_len]; omega) (.slice (some ⟨W.heap.size, 0, none⟩) n n)
  generalize (X.setCell ⟨b, 35, none⟩ (.slice (some ⟨W.heap.size, 0, none⟩) n n)) = Y at *
  have hys := t2.size
  have kb := k4.keep (t2.block _ (by omega) (by simp; omega))
  refine ⟨k1.trans (t2.below k1.size (by simp; omega)), by simpa [E2] using kb, ⟨?_, ?_, ?_, ?_, by simp [E2], by simp [E2], by simp [E2], by simp [E2], by simp [E2], by simp [E2], by simp [E2]⟩, by omega, by simp [E2], by simp [E2]⟩
  · have e : ZIN.set 35 (.slice (some ⟨W.heap.size, 0, none⟩) n n) = ((E2 b W.heap.size n).ins.flatMap MIn.cells) := by
      have hp : (bys z32).length = 32 := rfl
      simp [E2, MIn.cells, inC, ZIN, ZI, List.set_append, hp]
    rw [← e]
    exact rdN_one (s := 36) kr (by rw [List.length_set, ZIN_len]) (by omega)
  · exact rdN_one (s := 2) (range_tch k3 t2 (by omega) (by omega)) rfl (by omega)
  · intro x hx
    simp [E2] at hx
    subst hx
    refine ⟨?_, ⟨rfl, (fun c hc => by have := List.eq_of_mem_replicate hc; omega), by simp [ZI], (fun c hc => by cases hc), by simp [ZI], by simp [ZI], (fun p hp => by simp at hp; rw [hp.2]; exact ⟨(fun c hc => by cases hc), by simp⟩)⟩, by simp, by simp; omega⟩
    simp only [List.length_replicate]
    have hr2 := (hr.tch t2 (by omega) (fun g off e => by injection e with e; injection e with e1 e2; omega)).up (show W.heap.size + 1 ≤ Y.heap.size by omega)
    exact ⟨by have := hr2.len; omega, hr2.at_⟩
  · intro o ho; simp [E2] at ho; subst ho; exact ZO_ok
theorem EdB.e3 (h : EdB w W b) (n : Nat) (hn : n ≤ 20000) : EdS w ((W.alloc (.cells (bys (List.replicate n 0)).toArray 5)).setCell ⟨b + 1, 1, none⟩ (.string (strB (List.replicate n 0)))) (b + 1 + 1) (E3 b n) := by
  obtain ⟨k1, k2, k3, k4⟩ := h.keep ((Below.refl W.heap.size W).alloc (Nat.le_refl _) (.cells (bys (List.replicate n 0)).toArray 5))
  have hs : (W.alloc (.cells (bys (List.replicate n 0)).toArray 5)).heap.size = W.heap.size + 1 := by simp
  have hb := h.bs
  have hl := h.bl
  generalize (W.alloc (.cells (bys (List.replicate n 0)).toArray 5)) = X at *
  have t2 : Tch X (X.setCell ⟨b + 1, 1, none⟩ (.string (strB (List.replicate n 0)))) [b + 1] := Tch.of_grown (grown_setCell _ _ _) (by simp)
  have kr := range_set k3 (k := 1) (by decide) (.string (strB (List.replicate n 0)))
  generalize (X.setCell ⟨b + 1, 1, none⟩ (.string (strB (List.replicate n 0)))) = Y at *
  have hys := t2.size
  have kb := k4.keep (t2.block _ (by omega) (by simp))
  refine ⟨k1.trans (t2.below k1.size (by simp; omega)), by simpa [E3] using kb, ⟨?_, ?_, ?_, ?_, by simp [E3], by simp [E3], by simp [E3], by simp [E3], by simp [E3], by simp [E3], by simp [E3]⟩, by omega, by simp [E3], by simp [E3]⟩
  · exact rdN_one (s := 36) (range_tch k2 t2 (by omega) (by omega)) ZIN_len (by omega)
  · exact rdN_one (s := 2) (C := (TOut.cells ⟨0, List.replicate n 0⟩)) (by simpa [TOut.cells, ZO] using kr) rfl (by omega)
  · intro x hx; simp [E3] at hx; subst hx; exact ZM_at _ _
  · intro o ho
    simp [E3] at ho
    subst ho
    exact ⟨by simp, by simp, (fun c hc => by have := List.eq_of_mem_replicate hc; omega), by simp; omega⟩
theorem EdS.more {w wx wy : World} {g : Nat} {T : MTx} (h : EdS w wx g T) (t : Below wx.heap.size wx wy) : EdS w wy g T :=
  ⟨h.b.trans (t.mono h.b.size), h.box.keep (t.block _ h.box.lt), (h.tx.below t).up t.size, h.gl, h.i1, h.o1⟩
theorem Bx4.rg {w : World} {g : Nat} {a b c d : Value} (h : Bx4 w g a b c d) : w.rangeAt g 0 [a, b, c, d] := fun j u hu => by
  rw [Nat.zero_add]
  match j, hu with
  | 0, hu => simp at hu; subst hu; exact h.c0
  | 1, hu => simp at hu; subst hu; exact h.c1
  | 2, hu => simp at hu; subst hu; exact h.c2
  | 3, hu => simp at hu; subst hu; exact h.c3
theorem EdS.drew {w wx : World} {g : Nat} {T : MTx} (h : EdS w wx g T) : EdS w wx.drew g T := ⟨Below.drew' h.b, h.box.keep rfl, h.tx.drew, h.gl, h.i1, h.o1⟩
end

set_option maxHeartbeats 8000000 in
set_option maxRecDepth 100000 in
theorem edges_walk (x y : Int) (w : World) :
    Calls Try.prog 7 #[.int .i64 x, .int .i64 y] w fun e w' => e = .returned (.bool true) ∧ Below w.heap.size w w' := by
  obtain ⟨k, hk⟩ : ∃ k, k = x % 4 := ⟨_, rfl⟩
  obtain ⟨m, hm⟩ : ∃ m, m = y % 2 := ⟨_, rfl⟩
  have hx3 : bits .and .i64 x 3 = k := by rw [hk]; exact i64_and3 x
  have hy1 : bits .and .i64 y 1 = m := by rw [hm]; exact i64_and1 y
  have hk0 : 0 ≤ k ∧ k ≤ 3 := by omega
  have hm0 : 0 ≤ m ∧ m ≤ 1 := by omega
  have HK := Lib.hid hk0
  have HM := Lib.hid hm0
  clear hk hm hk0 hm0
  go_enter Try.func7, Try.ntmps7
  go_wp2_with fail
  refine (head_any _).mono ?_
  rintro ee w1 ⟨rfl, b1⟩
  have HB1 := Lib.hid b1
  clear b1
  go_upto_region 4 with fail
  clear hy1
  obtain ⟨b, hb⟩ : ∃ b, b = w1.heap.size := ⟨_, rfl⟩
  have HL1 := Lib.hid (fun parts hp => lit_in w1 ZIN ZIN_len parts hp)
  obtain ⟨V1, e1⟩ : ∃ V1, V1 = w1.alloc (.cells ZIN.toArray 58) := ⟨_, rfl⟩
  have s1 : V1.heap.size = b + 1 := by rw [e1, hb]; simp
  have HL2 := Lib.hid (fun parts hp => lit_out V1 ⟨0, []⟩ parts hp)
  rw [← e1] at HL1
  rw [s1] at HL2
  rw [← hb] at HL1
  obtain ⟨V2, e2⟩ : ∃ V2, V2 = V1.alloc (.cells (TOut.cells ⟨0, []⟩).toArray 49) := ⟨_, rfl⟩
  have s2 : V2.heap.size = b + 1 + 1 := by rw [e2]; simp [s1]
  rw [← e2] at HL2
  obtain ⟨W3, e3⟩ : ∃ W3, W3 = V2.alloc (.cells #[.int .i32 0, .slice (some ⟨b, 0, none⟩) 1 1, .slice (some ⟨b + 1, 0, none⟩) 1 1, .int .u32 0] 26) := ⟨_, rfl⟩
  have HE3 := Lib.hid e3
  have HS2 := Lib.hid s2
  have HB3 : Hid (EdB w W3 b) := Lib.hid (by
    have q1 : Below w1.heap.size w1 V1 := by rw [e1]; exact (Below.refl _ _).alloc (Nat.le_refl _) _
    have q2 : Below V1.heap.size V1 V2 := by rw [e2]; exact (Below.refl _ _).alloc (Nat.le_refl _) _
    have q3 : Below V2.heap.size V2 W3 := by rw [e3]; exact (Below.refl _ _).alloc (Nat.le_refl _) _
    have x1 : Blk V1 b 58 ZIN.toArray := by rw [e1, hb]; exact Blk.new _ _ _
    have x2 : Blk V2 (b + 1) 49 (TOut.cells ⟨0, []⟩).toArray := by rw [← s1, e2]; exact Blk.new _ _ _
    have x3 : Bx4 W3 (b + 1 + 1) (.int .i32 0) (.slice (some ⟨b, 0, none⟩) 1 1) (.slice (some ⟨b + 1, 0, none⟩) 1 1) (.int .u32 0) := by rw [← s2, e3]; exact Bx4.new _ _ _ _ _ _
    have y1 := (x1.below q2 x1.lt).below q3 (by have := x1.lt; have := q2.size; omega)
    have y2 := x2.below q3 x2.lt
    exact ⟨(HB1.out.trans (q1.mono HB1.out.size)).trans ((q2.trans (q3.mono q2.size)).mono (by have := HB1.out.size; omega)), y1.range, fun o => by (unfold World.frozen?; rw [show W3.heap[b]? = _ from y1]; simp), y2.range, fun o => by (unfold World.frozen?; rw [show W3.heap[b + 1]? = _ from y2]; simp), x3, by have := HB1.out.size; omega, by rw [e3]; simp [s2]⟩)
  clear e1 e2 e3 s1 s2
  go_upto_region 5 with (first
    | (show wpList _ _ _ (Oper.mk (some 16) _ _ _ _ _ :: _) _ _; refine wpList_of_wp rfl fun K hK => wp_built 58 _ rfl ZIN.toArray (by simpa using built_in) (hK _ _ ?_))
    | (show wpList _ _ _ (Oper.mk (some 17) _ _ _ _ _ :: _) _ _; refine arm_build1 22 (.tmp 16) (v' := ?_) (w' := ?_) ?hr ?_; case hr => exact HL1.out _ rfl)
    | (show wpList _ _ _ (Oper.mk (some 19) _ _ _ _ _ :: _) _ _; refine arm_build1 23 (.tmp 18) (v' := ?_) (w' := ?_) ?hr2 ?_; case hr2 => exact HL2.out _ rfl))
  rw [← hb, ← HE3.out, HS2.out]
  clear hb
  go_upto_block 0 with fail
  clear hx3
  go_cut [6] (fun s6 wx => ∃ (T : MTx) (z : Nat), s6 = .int .i64 (z : Int) ∧ Hid (EdS w wx (b + 1 + 1) T ∧ chk T.p = z ∧ encE T.p = z))
  case first =>
    as_aux_lemma =>
      have hk : k = 0 ∨ k = 1 ∨ k = 2 ∨ k = 3 := by have := HK.out; omega
      have hm : m = 0 ∨ m = 1 := by have := HM.out; omega
      rcases hk with rfl | rfl | rfl | rfl
      · rcases hm with rfl | rfl
        · have km : ∀ W : World, (Instr.makeSlice 22 (.int .i64 1024) (.int .i64 1024)).run Try.prog W = .ok (.slice (some ⟨W.heap.size, 0, none⟩) 1024 1024) (W.alloc (.cells ((List.replicate 1024 ZM).flatMap MIn.cells).toArray 58)) := fun W => mk_ins W 1024 (by omega)
          have HF := Lib.hid (HB3.out.e0 1024 (by omega))
          have HG := Lib.hid ed0_ok
          have HA := Lib.hid (e0_p b W3.heap.size 1024)
          have cA := (HB3.out.box.alloc' (.cells ((List.replicate 1024 ZM).flatMap MIn.cells).toArray 58)).c1
          have fA := (HB3.out.box.alloc' (.cells ((List.replicate 1024 ZM).flatMap MIn.cells).toArray 58)).cold 1
          generalize (List.replicate 1024 ZM).flatMap MIn.cells = CC at *
          go_wp2
          go_meet
          exact ⟨_, 0, rfl, Lib.hid ⟨HF.out, by rw [HA.out]; exact HG.out.1, by rw [HA.out]; exact HG.out.2⟩⟩
        · have km : ∀ W : World, (Instr.makeSlice 22 (.int .i64 1025) (.int .i64 1025)).run Try.prog W = .ok (.slice (some ⟨W.heap.size, 0, none⟩) 1025 1025) (W.alloc (.cells ((List.replicate 1025 ZM).flatMap MIn.cells).toArray 58)) := fun W => mk_ins W 1025 (by omega)
          have HF := Lib.hid (HB3.out.e0 1025 (by omega))
          have HG := Lib.hid ed0_no
          have HA := Lib.hid (e0_p b W3.heap.size 1025)
          have cA := (HB3.out.box.alloc' (.cells ((List.replicate 1025 ZM).flatMap MIn.cells).toArray 58)).c1
          have fA := (HB3.out.box.alloc' (.cells ((List.replicate 1025 ZM).flatMap MIn.cells).toArray 58)).cold 1
          generalize (List.replicate 1025 ZM).flatMap MIn.cells = CC at *
          go_wp2
          go_meet
          exact ⟨_, 3, rfl, Lib.hid ⟨HF.out, by rw [HA.out]; exact HG.out.1, by rw [HA.out]; exact HG.out.2⟩⟩
      · rcases hm with rfl | rfl
        · have km : ∀ W : World, (Instr.makeSlice 23 (.int .i64 1024) (.int .i64 1024)).run Try.prog W = .ok (.slice (some ⟨W.heap.size, 0, none⟩) 1024 1024) (W.alloc (.cells ((List.replicate 1024 ZO).flatMap TOut.cells).toArray 49)) := fun W => mk_outs W 1024 (by omega)
          have HF := Lib.hid (HB3.out.e1 1024 (by omega))
          have HG := Lib.hid ed1_ok
          have HA := Lib.hid (e1_p b W3.heap.size 1024)
          have cA := (HB3.out.box.alloc' (.cells ((List.replicate 1024 ZO).flatMap TOut.cells).toArray 49)).c2
          have fA := (HB3.out.box.alloc' (.cells ((List.replicate 1024 ZO).flatMap TOut.cells).toArray 49)).cold 2
          generalize (List.replicate 1024 ZO).flatMap TOut.cells = CC at *
          go_wp2
          go_meet
          exact ⟨_, 0, rfl, Lib.hid ⟨HF.out, by rw [HA.out]; exact HG.out.1, by rw [HA.out]; exact HG.out.2⟩⟩
        · have km : ∀ W : World, (Instr.makeSlice 23 (.int .i64 1025) (.int .i64 1025)).run Try.prog W = .ok (.slice (some ⟨W.heap.size, 0, none⟩) 1025 1025) (W.alloc (.cells ((List.replicate 1025 ZO).flatMap TOut.cells).toArray 49)) := fun W => mk_outs W 1025 (by omega)
          have HF := Lib.hid (HB3.out.e1 1025 (by omega))
          have HG := Lib.hid ed1_no
          have HA := Lib.hid (e1_p b W3.heap.size 1025)
          have cA := (HB3.out.box.alloc' (.cells ((List.replicate 1025 ZO).flatMap TOut.cells).toArray 49)).c2
          have fA := (HB3.out.box.alloc' (.cells ((List.replicate 1025 ZO).flatMap TOut.cells).toArray 49)).cold 2
          generalize (List.replicate 1025 ZO).flatMap TOut.cells = CC at *
          go_wp2
          go_meet
          exact ⟨_, 3, rfl, Lib.hid ⟨HF.out, by rw [HA.out]; exact HG.out.1, by rw [HA.out]; exact HG.out.2⟩⟩
      · rcases hm with rfl | rfl
        · have km : ∀ W : World, (Instr.makeSlice 56 (.int .i64 100) (.int .i64 100)).run Try.prog W = .ok (.slice (some ⟨W.heap.size, 0, none⟩) 100 100) (W.alloc (.cells (strs (List.replicate 100 [])).toArray 9)) := fun W => mk_strs W 100 (by omega)
          have HF := Lib.hid (HB3.out.e2 100 (by omega))
          have HG := Lib.hid ed2_ok
          have HA := Lib.hid (e2_p b W3.heap.size 100)
          have HAL := Lib.hid (fun o => HB3.out.keep ((Below.refl W3.heap.size W3).alloc (Nat.le_refl _) o))
          have gA : (W3.alloc (.cells (strs (List.replicate 100 [])).toArray 9)).cell? ⟨b, 35, none⟩ = some (.slice none 0 0) := by
            have := (HAL.out (.cells (strs (List.replicate 100 [])).toArray 9)).2.1 35 _ rfl
            rwa [Nat.zero_add] at this
          have fA : (W3.alloc (.cells (strs (List.replicate 100 [])).toArray 9)).frozen? ⟨b, 35, none⟩ = false := by
            rw [← HB3.out.f0 35]
            unfold World.frozen?
            rw [((Below.refl W3.heap.size W3).alloc (Nat.le_refl _) (.cells (strs (List.replicate 100 [])).toArray 9)).block b (by have := HB3.out.bs; omega)]
          have c1 := HB3.out.box.c1
          generalize strs (List.replicate 100 []) = CC at *
          go_upto_region 16 with fail
          refine wp_region_noPanic ?_
          refine wp_region_held_drew (S := (fun wx => wx.cell? ⟨b + 1 + 1, 1, none⟩ = some (.slice (some ⟨b, 0, none⟩) 1 1))) (by kernel_rfl) (c1) (fun hHeld => ?_)
          refine wpAnyH_take (i := 0) (v := ?_) (by simp only [List.getElem?_toArray, List.getElem?_cons_succ, List.getElem?_cons_zero]; rfl) (by kernel_rfl) (by kernel_rfl) (by kernel_rfl) (fun _ _ _ h => h) (Or.inl ⟨by rfl, ?_⟩) (by assumption) ?_
          rotate_left
          · (intro w hSw; (try dsimp only at hSw); go_simp; (try with_reducible rfl))
          (try simp only [Act.put, List.setIfInBounds_toArray, List.set_cons_zero, List.set_cons_succ])
          refine wpAnyH_take (i := 1) (v := ?_) (by simp only [List.getElem?_toArray, List.getElem?_cons_succ, List.getElem?_cons_zero]; rfl) (by kernel_rfl) (by kernel_rfl) (by kernel_rfl) (fun _ _ _ h => h) (Or.inl ⟨by rfl, ?_⟩) (by assumption) ?_
          rotate_left
          · (intro w hSw; (try dsimp only at hSw); go_simp; (try with_reducible rfl))
          (try simp only [Act.put, List.setIfInBounds_toArray, List.set_cons_zero, List.set_cons_succ])
          refine wpAnyH_take (i := 2) (v := ?_) (by simp only [List.getElem?_toArray, List.getElem?_cons_succ, List.getElem?_cons_zero]; rfl) (by kernel_rfl) (by kernel_rfl) (by kernel_rfl) (fun _ _ _ h => h) (Or.inl ⟨by rfl, ?_⟩) (by assumption) ?_
          rotate_left
          · (intro w hSw; (try dsimp only at hSw); go_simp; (try with_reducible rfl))
          (try simp only [Act.put, List.setIfInBounds_toArray, List.set_cons_zero, List.set_cons_succ])
          refine wpAnyH_take (i := 3) (v := .int .i64 100) (by simp only [List.getElem?_toArray, List.getElem?_cons_succ, List.getElem?_cons_zero]; rfl) (by kernel_rfl) (by kernel_rfl) (by kernel_rfl) (fun _ _ _ h => h) (Or.inl ⟨by rfl, ?_⟩) (by assumption) ?_
          · (intro w hSw; (try dsimp only at hSw); go_simp; (try rfl))
          (try simp only [Act.put, List.setIfInBounds_toArray, List.set_cons_zero, List.set_cons_succ])
          refine wpAnyH_ready (rs := [4]) (by kernel_rfl) (by simp) ?_
          refine AllReadyH.cons (by simp only [List.getElem?_toArray, List.getElem?_cons_succ, List.getElem?_cons_zero]; rfl) (fun K hK => ?_) AllReadyH.nil
          go_simp
          refine hK.out _ _ ?_ (fun hHeld => ?_)
          · exact (HAL.out _).2.2.2.c1
          clear hK K
          (try simp only [Act.put, List.setIfInBounds_toArray, List.set_cons_zero, List.set_cons_succ])
          refine wpAnyH_take (i := 5) (v := ?_) (by simp only [List.getElem?_toArray, List.getElem?_cons_succ, List.getElem?_cons_zero]; rfl) (by kernel_rfl) (by kernel_rfl) (by kernel_rfl) (fun _ _ _ h => h) (Or.inl ⟨by rfl, ?_⟩) (by assumption) ?_
          rotate_left
          · (intro w hSw; (try dsimp only at hSw); go_simp; (try with_reducible rfl))
          (try simp only [Act.put, List.setIfInBounds_toArray, List.set_cons_zero, List.set_cons_succ])
          refine wpAnyH_take (i := 6) (v := ?_) (by simp only [List.getElem?_toArray, List.getElem?_cons_succ, List.getElem?_cons_zero]; rfl) (by kernel_rfl) (by kernel_rfl) (by kernel_rfl) (fun _ _ _ h => h) (Or.inl ⟨by rfl, ?_⟩) (by assumption) ?_
          rotate_left
          · (intro w hSw; (try dsimp only at hSw); go_simp; (try with_reducible rfl))
          (try simp only [Act.put, List.setIfInBounds_toArray, List.set_cons_zero, List.set_cons_succ])
          refine wpAnyH_ready (rs := [7]) (by kernel_rfl) (by simp) ?_
          refine AllReadyH.cons (by simp only [List.getElem?_toArray, List.getElem?_cons_succ, List.getElem?_cons_zero]; rfl) (fun K hK => ?_) AllReadyH.nil
          go_simp
          refine hK.out _ _ ?_ (fun hHeld => ?_)
          · exact HF.out.box.c1
          clear hK K
          (try simp only [Act.put, List.setIfInBounds_toArray, List.set_cons_zero, List.set_cons_succ])
          refine wpAnyH_done (by kernel_rfl) ?_ _
          refine NoPanic.normal ?_
          go_wp2
          go_meet
          exact ⟨_, 0, rfl, Lib.hid ⟨by first | exact HF.out | exact HF.out.drew, by rw [HA.out]; exact HG.out.1, by rw [HA.out]; exact HG.out.2⟩⟩
        · have km : ∀ W : World, (Instr.makeSlice 56 (.int .i64 101) (.int .i64 101)).run Try.prog W = .ok (.slice (some ⟨W.heap.size, 0, none⟩) 101 101) (W.alloc (.cells (strs (List.replicate 101 [])).toArray 9)) := fun W => mk_strs W 101 (by omega)
          have HF := Lib.hid (HB3.out.e2 101 (by omega))
          have HG := Lib.hid ed2_no
          have HA := Lib.hid (e2_p b W3.heap.size 101)
          have HAL := Lib.hid (fun o => HB3.out.keep ((Below.refl W3.heap.size W3).alloc (Nat.le_refl _) o))
          have gA : (W3.alloc (.cells (strs (List.replicate 101 [])).toArray 9)).cell? ⟨b, 35, none⟩ = some (.slice none 0 0) := by
            have := (HAL.out (.cells (strs (List.replicate 101 [])).toArray 9)).2.1 35 _ rfl
            rwa [Nat.zero_add] at this
          have fA : (W3.alloc (.cells (strs (List.replicate 101 [])).toArray 9)).frozen? ⟨b, 35, none⟩ = false := by
            rw [← HB3.out.f0 35]
            unfold World.frozen?
            rw [((Below.refl W3.heap.size W3).alloc (Nat.le_refl _) (.cells (strs (List.replicate 101 [])).toArray 9)).block b (by have := HB3.out.bs; omega)]
          have c1 := HB3.out.box.c1
          generalize strs (List.replicate 101 []) = CC at *
          go_upto_region 16 with fail
          refine wp_region_noPanic ?_
          refine wp_region_held_drew (S := (fun wx => wx.cell? ⟨b + 1 + 1, 1, none⟩ = some (.slice (some ⟨b, 0, none⟩) 1 1))) (by kernel_rfl) (c1) (fun hHeld => ?_)
          refine wpAnyH_take (i := 0) (v := ?_) (by simp only [List.getElem?_toArray, List.getElem?_cons_succ, List.getElem?_cons_zero]; rfl) (by kernel_rfl) (by kernel_rfl) (by kernel_rfl) (fun _ _ _ h => h) (Or.inl ⟨by rfl, ?_⟩) (by assumption) ?_
          rotate_left
          · (intro w hSw; (try dsimp only at hSw); go_simp; (try with_reducible rfl))
          (try simp only [Act.put, List.setIfInBounds_toArray, List.set_cons_zero, List.set_cons_succ])
          refine wpAnyH_take (i := 1) (v := ?_) (by simp only [List.getElem?_toArray, List.getElem?_cons_succ, List.getElem?_cons_zero]; rfl) (by kernel_rfl) (by kernel_rfl) (by kernel_rfl) (fun _ _ _ h => h) (Or.inl ⟨by rfl, ?_⟩) (by assumption) ?_
          rotate_left
          · (intro w hSw; (try dsimp only at hSw); go_simp; (try with_reducible rfl))
          (try simp only [Act.put, List.setIfInBounds_toArray, List.set_cons_zero, List.set_cons_succ])
          refine wpAnyH_take (i := 2) (v := ?_) (by simp only [List.getElem?_toArray, List.getElem?_cons_succ, List.getElem?_cons_zero]; rfl) (by kernel_rfl) (by kernel_rfl) (by kernel_rfl) (fun _ _ _ h => h) (Or.inl ⟨by rfl, ?_⟩) (by assumption) ?_
          rotate_left
          · (intro w hSw; (try dsimp only at hSw); go_simp; (try with_reducible rfl))
          (try simp only [Act.put, List.setIfInBounds_toArray, List.set_cons_zero, List.set_cons_succ])
          refine wpAnyH_take (i := 3) (v := .int .i64 101) (by simp only [List.getElem?_toArray, List.getElem?_cons_succ, List.getElem?_cons_zero]; rfl) (by kernel_rfl) (by kernel_rfl) (by kernel_rfl) (fun _ _ _ h => h) (Or.inl ⟨by rfl, ?_⟩) (by assumption) ?_
          · (intro w hSw; (try dsimp only at hSw); go_simp; (try rfl))
          (try simp only [Act.put, List.setIfInBounds_toArray, List.set_cons_zero, List.set_cons_succ])
          refine wpAnyH_ready (rs := [4]) (by kernel_rfl) (by simp) ?_
          refine AllReadyH.cons (by simp only [List.getElem?_toArray, List.getElem?_cons_succ, List.getElem?_cons_zero]; rfl) (fun K hK => ?_) AllReadyH.nil
          go_simp
          refine hK.out _ _ ?_ (fun hHeld => ?_)
          · exact (HAL.out _).2.2.2.c1
          clear hK K
          (try simp only [Act.put, List.setIfInBounds_toArray, List.set_cons_zero, List.set_cons_succ])
          refine wpAnyH_take (i := 5) (v := ?_) (by simp only [List.getElem?_toArray, List.getElem?_cons_succ, List.getElem?_cons_zero]; rfl) (by kernel_rfl) (by kernel_rfl) (by kernel_rfl) (fun _ _ _ h => h) (Or.inl ⟨by rfl, ?_⟩) (by assumption) ?_
          rotate_left
          · (intro w hSw; (try dsimp only at hSw); go_simp; (try with_reducible rfl))
          (try simp only [Act.put, List.setIfInBounds_toArray, List.set_cons_zero, List.set_cons_succ])
          refine wpAnyH_take (i := 6) (v := ?_) (by simp only [List.getElem?_toArray, List.getElem?_cons_succ, List.getElem?_cons_zero]; rfl) (by kernel_rfl) (by kernel_rfl) (by kernel_rfl) (fun _ _ _ h => h) (Or.inl ⟨by rfl, ?_⟩) (by assumption) ?_
          rotate_left
          · (intro w hSw; (try dsimp only at hSw); go_simp; (try with_reducible rfl))
          (try simp only [Act.put, List.setIfInBounds_toArray, List.set_cons_zero, List.set_cons_succ])
          refine wpAnyH_ready (rs := [7]) (by kernel_rfl) (by simp) ?_
          refine AllReadyH.cons (by simp only [List.getElem?_toArray, List.getElem?_cons_succ, List.getElem?_cons_zero]; rfl) (fun K hK => ?_) AllReadyH.nil
          go_simp
          refine hK.out _ _ ?_ (fun hHeld => ?_)
          · exact HF.out.box.c1
          clear hK K
          (try simp only [Act.put, List.setIfInBounds_toArray, List.set_cons_zero, List.set_cons_succ])
          refine wpAnyH_done (by kernel_rfl) ?_ _
          refine NoPanic.normal ?_
          go_wp2
          go_meet
          exact ⟨_, 3, rfl, Lib.hid ⟨by first | exact HF.out | exact HF.out.drew, by rw [HA.out]; exact HG.out.1, by rw [HA.out]; exact HG.out.2⟩⟩
      · rcases hm with rfl | rfl
        · have km : ∀ W : World, (Instr.makeSlice 27 (.int .i64 10000) (.int .i64 10000)).run Try.prog W = .ok (.slice (some ⟨W.heap.size, 0, none⟩) 10000 10000) (W.alloc (.cells (bys (List.replicate 10000 0)).toArray 5)) := fun W => mk_bys W 10000 (by omega)
          have HF := Lib.hid (HB3.out.e3 10000 (by omega))
          have HG := Lib.hid ed3_ok
          have HA := Lib.hid (e3_p b 10000)
          have HAL := Lib.hid (fun o => HB3.out.keep ((Below.refl W3.heap.size W3).alloc (Nat.le_refl _) o))
          have gA : (W3.alloc (.cells (bys (List.replicate 10000 0)).toArray 5)).cell? ⟨b + 1, 1, none⟩ = some (.string ⟨#[]⟩) := by
            have := (HAL.out (.cells (bys (List.replicate 10000 0)).toArray 5)).2.2.1 1 _ rfl
            rwa [Nat.zero_add] at this
          have fA : (W3.alloc (.cells (bys (List.replicate 10000 0)).toArray 5)).frozen? ⟨b + 1, 1, none⟩ = false := by
            rw [← HB3.out.f1 1]
            unfold World.frozen?
            rw [((Below.refl W3.heap.size W3).alloc (Nat.le_refl _) (.cells (bys (List.replicate 10000 0)).toArray 5)).block (b + 1) (by have := HB3.out.bs; omega)]
          have kc : (convert 27 9 (.slice (some ⟨W3.heap.size, 0, none⟩) 10000 10000)).run Try.prog (W3.alloc (.cells (bys (List.replicate 10000 0)).toArray 5)).drew = .ok (.string (strB (List.replicate 10000 0))) (W3.alloc (.cells (bys (List.replicate 10000 0)).toArray 5)).drew :=
            run_conv (P := Try.prog) 10000 (show Rd (W3.alloc (.cells (bys (List.replicate 10000 0)).toArray 5)).drew (W3.heap.size + 1) (some ⟨W3.heap.size, 0, none⟩) 10000 (bys (List.replicate 10000 0)) from by
              have hr : RdN (W3.alloc (.cells (bys (List.replicate 10000 0)).toArray 5)) (W3.heap.size + 1) 1 (some ⟨W3.heap.size, 0, none⟩) 10000 (bys (List.replicate 10000 0)) := RdN.new W3 1 10000 _ 5 (0, 0) (by rw [bys_len, List.length_replicate])
              exact ⟨by have := hr.len; omega, hr.drew.at_⟩) 27 9 5 Try.underlying27 Try.underlying5 Try.underlying9
          have c2 := HB3.out.box.c2
          generalize bys (List.replicate 10000 0) = CC at *
          generalize strB (List.replicate 10000 0) = SC at *
          go_upto_region 20 with fail
          refine wp_region_noPanic ?_
          refine wp_region_held_drew (S := (fun wx => wx.cell? ⟨b + 1 + 1, 2, none⟩ = some (.slice (some ⟨b + 1, 0, none⟩) 1 1))) (by kernel_rfl) (c2) (fun hHeld => ?_)
          refine wpAnyH_take (i := 0) (v := ?_) (by simp only [List.getElem?_toArray, List.getElem?_cons_succ, List.getElem?_cons_zero]; rfl) (by kernel_rfl) (by kernel_rfl) (by kernel_rfl) (fun _ _ _ h => h) (Or.inl ⟨by rfl, ?_⟩) (by assumption) ?_
          rotate_left
          · (intro w hSw; (try dsimp only at hSw); go_simp; (try with_reducible rfl))
          (try simp only [Act.put, List.setIfInBounds_toArray, List.set_cons_zero, List.set_cons_succ])
          refine wpAnyH_take (i := 1) (v := ?_) (by simp only [List.getElem?_toArray, List.getElem?_cons_succ, List.getElem?_cons_zero]; rfl) (by kernel_rfl) (by kernel_rfl) (by kernel_rfl) (fun _ _ _ h => h) (Or.inl ⟨by rfl, ?_⟩) (by assumption) ?_
          rotate_left
          · (intro w hSw; (try dsimp only at hSw); go_simp; (try with_reducible rfl))
          (try simp only [Act.put, List.setIfInBounds_toArray, List.set_cons_zero, List.set_cons_succ])
          refine wpAnyH_take (i := 2) (v := ?_) (by simp only [List.getElem?_toArray, List.getElem?_cons_succ, List.getElem?_cons_zero]; rfl) (by kernel_rfl) (by kernel_rfl) (by kernel_rfl) (fun _ _ _ h => h) (Or.inl ⟨by rfl, ?_⟩) (by assumption) ?_
          rotate_left
          · (intro w hSw; (try dsimp only at hSw); go_simp; (try with_reducible rfl))
          (try simp only [Act.put, List.setIfInBounds_toArray, List.set_cons_zero, List.set_cons_succ])
          refine wpAnyH_take (i := 3) (v := .int .i64 10000) (by simp only [List.getElem?_toArray, List.getElem?_cons_succ, List.getElem?_cons_zero]; rfl) (by kernel_rfl) (by kernel_rfl) (by kernel_rfl) (fun _ _ _ h => h) (Or.inl ⟨by rfl, ?_⟩) (by assumption) ?_
          · (intro w hSw; (try dsimp only at hSw); go_simp; (try rfl))
          (try simp only [Act.put, List.setIfInBounds_toArray, List.set_cons_zero, List.set_cons_succ])
          refine wpAnyH_ready (rs := [4]) (by kernel_rfl) (by simp) ?_
          refine AllReadyH.cons (by simp only [List.getElem?_toArray, List.getElem?_cons_succ, List.getElem?_cons_zero]; rfl) (fun K hK => ?_) AllReadyH.nil
          go_simp
          refine hK.out _ _ ?_ (fun hHeld => ?_)
          · exact (HAL.out _).2.2.2.c2
          clear hK K
          (try simp only [Act.put, List.setIfInBounds_toArray, List.set_cons_zero, List.set_cons_succ])
          refine wpAnyH_ready (rs := [5]) (by kernel_rfl) (by simp) ?_
          refine AllReadyH.cons (by simp only [List.getElem?_toArray, List.getElem?_cons_succ, List.getElem?_cons_zero]; rfl) (fun K hK => ?_) AllReadyH.nil
          go_simp
          refine hK.out _ _ ?_ (fun hHeld => ?_)
          · exact (HAL.out _).2.2.2.c2
          clear hK K
          (try simp only [Act.put, List.setIfInBounds_toArray, List.set_cons_zero, List.set_cons_succ])
          refine wpAnyH_take (i := 6) (v := ?_) (by simp only [List.getElem?_toArray, List.getElem?_cons_succ, List.getElem?_cons_zero]; rfl) (by kernel_rfl) (by kernel_rfl) (by kernel_rfl) (fun _ _ _ h => h) (Or.inl ⟨by rfl, ?_⟩) (by assumption) ?_
          rotate_left
          · (intro w hSw; (try dsimp only at hSw); go_simp; (try with_reducible rfl))
          (try simp only [Act.put, List.setIfInBounds_toArray, List.set_cons_zero, List.set_cons_succ])
          refine wpAnyH_take (i := 7) (v := ?_) (by simp only [List.getElem?_toArray, List.getElem?_cons_succ, List.getElem?_cons_zero]; rfl) (by kernel_rfl) (by kernel_rfl) (by kernel_rfl) (fun _ _ _ h => h) (Or.inl ⟨by rfl, ?_⟩) (by assumption) ?_
          rotate_left
          · (intro w hSw; (try dsimp only at hSw); go_simp; (try with_reducible rfl))
          (try simp only [Act.put, List.setIfInBounds_toArray, List.set_cons_zero, List.set_cons_succ])
          refine wpAnyH_ready (rs := [8]) (by kernel_rfl) (by simp) ?_
          refine AllReadyH.cons (by simp only [List.getElem?_toArray, List.getElem?_cons_succ, List.getElem?_cons_zero]; rfl) (fun K hK => ?_) AllReadyH.nil
          go_simp
          refine hK.out _ _ ?_ (fun hHeld => ?_)
          · exact HF.out.box.c2
          clear hK K
          (try simp only [Act.put, List.setIfInBounds_toArray, List.set_cons_zero, List.set_cons_succ])
          refine wpAnyH_done (by kernel_rfl) ?_ _
          refine NoPanic.normal ?_
          go_wp2
          go_meet
          exact ⟨_, 0, rfl, Lib.hid ⟨by first | exact HF.out | exact HF.out.drew, by rw [HA.out]; exact HG.out.1, by rw [HA.out]; exact HG.out.2⟩⟩
        · have km : ∀ W : World, (Instr.makeSlice 27 (.int .i64 10001) (.int .i64 10001)).run Try.prog W = .ok (.slice (some ⟨W.heap.size, 0, none⟩) 10001 10001) (W.alloc (.cells (bys (List.replicate 10001 0)).toArray 5)) := fun W => mk_bys W 10001 (by omega)
          have HF := Lib.hid (HB3.out.e3 10001 (by omega))
          have HG := Lib.hid ed3_no
          have HA := Lib.hid (e3_p b 10001)
          have HAL := Lib.hid (fun o => HB3.out.keep ((Below.refl W3.heap.size W3).alloc (Nat.le_refl _) o))
          have gA : (W3.alloc (.cells (bys (List.replicate 10001 0)).toArray 5)).cell? ⟨b + 1, 1, none⟩ = some (.string ⟨#[]⟩) := by
            have := (HAL.out (.cells (bys (List.replicate 10001 0)).toArray 5)).2.2.1 1 _ rfl
            rwa [Nat.zero_add] at this
          have fA : (W3.alloc (.cells (bys (List.replicate 10001 0)).toArray 5)).frozen? ⟨b + 1, 1, none⟩ = false := by
            rw [← HB3.out.f1 1]
            unfold World.frozen?
            rw [((Below.refl W3.heap.size W3).alloc (Nat.le_refl _) (.cells (bys (List.replicate 10001 0)).toArray 5)).block (b + 1) (by have := HB3.out.bs; omega)]
          have kc : (convert 27 9 (.slice (some ⟨W3.heap.size, 0, none⟩) 10001 10001)).run Try.prog (W3.alloc (.cells (bys (List.replicate 10001 0)).toArray 5)).drew = .ok (.string (strB (List.replicate 10001 0))) (W3.alloc (.cells (bys (List.replicate 10001 0)).toArray 5)).drew :=
            run_conv (P := Try.prog) 10001 (show Rd (W3.alloc (.cells (bys (List.replicate 10001 0)).toArray 5)).drew (W3.heap.size + 1) (some ⟨W3.heap.size, 0, none⟩) 10001 (bys (List.replicate 10001 0)) from by
              have hr : RdN (W3.alloc (.cells (bys (List.replicate 10001 0)).toArray 5)) (W3.heap.size + 1) 1 (some ⟨W3.heap.size, 0, none⟩) 10001 (bys (List.replicate 10001 0)) := RdN.new W3 1 10001 _ 5 (0, 0) (by rw [bys_len, List.length_replicate])
              exact ⟨by have := hr.len; omega, hr.drew.at_⟩) 27 9 5 Try.underlying27 Try.underlying5 Try.underlying9
          have c2 := HB3.out.box.c2
          generalize bys (List.replicate 10001 0) = CC at *
          generalize strB (List.replicate 10001 0) = SC at *
          go_upto_region 20 with fail
          refine wp_region_noPanic ?_
          refine wp_region_held_drew (S := (fun wx => wx.cell? ⟨b + 1 + 1, 2, none⟩ = some (.slice (some ⟨b + 1, 0, none⟩) 1 1))) (by kernel_rfl) (c2) (fun hHeld => ?_)
          refine wpAnyH_take (i := 0) (v := ?_) (by simp only [List.getElem?_toArray, List.getElem?_cons_succ, List.getElem?_cons_zero]; rfl) (by kernel_rfl) (by kernel_rfl) (by kernel_rfl) (fun _ _ _ h => h) (Or.inl ⟨by rfl, ?_⟩) (by assumption) ?_
          rotate_left
          · (intro w hSw; (try dsimp only at hSw); go_simp; (try with_reducible rfl))
          (try simp only [Act.put, List.setIfInBounds_toArray, List.set_cons_zero, List.set_cons_succ])
          refine wpAnyH_take (i := 1) (v := ?_) (by simp only [List.getElem?_toArray, List.getElem?_cons_succ, List.getElem?_cons_zero]; rfl) (by kernel_rfl) (by kernel_rfl) (by kernel_rfl) (fun _ _ _ h => h) (Or.inl ⟨by rfl, ?_⟩) (by assumption) ?_
          rotate_left
          · (intro w hSw; (try dsimp only at hSw); go_simp; (try with_reducible rfl))
          (try simp only [Act.put, List.setIfInBounds_toArray, List.set_cons_zero, List.set_cons_succ])
          refine wpAnyH_take (i := 2) (v := ?_) (by simp only [List.getElem?_toArray, List.getElem?_cons_succ, List.getElem?_cons_zero]; rfl) (by kernel_rfl) (by kernel_rfl) (by kernel_rfl) (fun _ _ _ h => h) (Or.inl ⟨by rfl, ?_⟩) (by assumption) ?_
          rotate_left
          · (intro w hSw; (try dsimp only at hSw); go_simp; (try with_reducible rfl))
          (try simp only [Act.put, List.setIfInBounds_toArray, List.set_cons_zero, List.set_cons_succ])
          refine wpAnyH_take (i := 3) (v := .int .i64 10001) (by simp only [List.getElem?_toArray, List.getElem?_cons_succ, List.getElem?_cons_zero]; rfl) (by kernel_rfl) (by kernel_rfl) (by kernel_rfl) (fun _ _ _ h => h) (Or.inl ⟨by rfl, ?_⟩) (by assumption) ?_
          · (intro w hSw; (try dsimp only at hSw); go_simp; (try rfl))
          (try simp only [Act.put, List.setIfInBounds_toArray, List.set_cons_zero, List.set_cons_succ])
          refine wpAnyH_ready (rs := [4]) (by kernel_rfl) (by simp) ?_
          refine AllReadyH.cons (by simp only [List.getElem?_toArray, List.getElem?_cons_succ, List.getElem?_cons_zero]; rfl) (fun K hK => ?_) AllReadyH.nil
          go_simp
          refine hK.out _ _ ?_ (fun hHeld => ?_)
          · exact (HAL.out _).2.2.2.c2
          clear hK K
          (try simp only [Act.put, List.setIfInBounds_toArray, List.set_cons_zero, List.set_cons_succ])
          refine wpAnyH_ready (rs := [5]) (by kernel_rfl) (by simp) ?_
          refine AllReadyH.cons (by simp only [List.getElem?_toArray, List.getElem?_cons_succ, List.getElem?_cons_zero]; rfl) (fun K hK => ?_) AllReadyH.nil
          go_simp
          refine hK.out _ _ ?_ (fun hHeld => ?_)
          · exact (HAL.out _).2.2.2.c2
          clear hK K
          (try simp only [Act.put, List.setIfInBounds_toArray, List.set_cons_zero, List.set_cons_succ])
          refine wpAnyH_take (i := 6) (v := ?_) (by simp only [List.getElem?_toArray, List.getElem?_cons_succ, List.getElem?_cons_zero]; rfl) (by kernel_rfl) (by kernel_rfl) (by kernel_rfl) (fun _ _ _ h => h) (Or.inl ⟨by rfl, ?_⟩) (by assumption) ?_
          rotate_left
          · (intro w hSw; (try dsimp only at hSw); go_simp; (try with_reducible rfl))
          (try simp only [Act.put, List.setIfInBounds_toArray, List.set_cons_zero, List.set_cons_succ])
          refine wpAnyH_take (i := 7) (v := ?_) (by simp only [List.getElem?_toArray, List.getElem?_cons_succ, List.getElem?_cons_zero]; rfl) (by kernel_rfl) (by kernel_rfl) (by kernel_rfl) (fun _ _ _ h => h) (Or.inl ⟨by rfl, ?_⟩) (by assumption) ?_
          rotate_left
          · (intro w hSw; (try dsimp only at hSw); go_simp; (try with_reducible rfl))
          (try simp only [Act.put, List.setIfInBounds_toArray, List.set_cons_zero, List.set_cons_succ])
          refine wpAnyH_ready (rs := [8]) (by kernel_rfl) (by simp) ?_
          refine AllReadyH.cons (by simp only [List.getElem?_toArray, List.getElem?_cons_succ, List.getElem?_cons_zero]; rfl) (fun K hK => ?_) AllReadyH.nil
          go_simp
          refine hK.out _ _ ?_ (fun hHeld => ?_)
          · exact HF.out.box.c2
          clear hK K
          (try simp only [Act.put, List.setIfInBounds_toArray, List.set_cons_zero, List.set_cons_succ])
          refine wpAnyH_done (by kernel_rfl) ?_ _
          refine NoPanic.normal ?_
          go_wp2
          go_meet
          exact ⟨_, 6, rfl, Lib.hid ⟨by first | exact HF.out | exact HF.out.drew, by rw [HA.out]; exact HG.out.1, by rw [HA.out]; exact HG.out.2⟩⟩
  case rest =>
    clear HL1 HL2 HB3 HE3
    obtain ⟨T, z, rfl, HT⟩ := hcut
    obtain ⟨TC, hTC⟩ : ∃ TC : List Value, TC = [.int .i32 T.ver, .slice T.ia T.ins.length T.ic, .slice T.oa T.outs.length T.oc, .int .u32 (T.lock : Int)] := ⟨_, rfl⟩
    have hval : T.val = .agg TC.toArray := by rw [hTC]; rfl
    have hlen : TC.length = 4 := by rw [hTC]; rfl
    have HSZ := Lib.hid (show (Try.prog.info? 26).map (·.size) = some TC.length by rw [hlen]; kernel_rfl)
    have HRG := Lib.hid HT.out.1.box.rg
    have HRR : Hid (∀ wx, EdS w wx (b + 1 + 1) T → wx.rangeAt (b + 1 + 1) 0 TC) := Lib.hid (fun wx hx => by rw [hTC]; exact hx.box.rg)
    rw [← hTC] at HRG
    have HEN := Lib.hid (encode_any _ _ T HT.out.1.tx (Nat.le_refl _))
    have HCK : Hid (∀ wx, EdS w wx (b + 1 + 1) T → Calls Try.prog 13 #[T.val] wx fun e w' => e = .returned (.int .i64 (chk T.p : Int)) ∧ Below wx.heap.size wx w') := Lib.hid (fun wx hx => check_any wx _ T hx.tx (Nat.le_refl _))
    have HPL : Hid (∀ wx, EdS w wx (b + 1 + 1) T → Calls Try.prog 12 #[T.val] wx fun e w' => ∃ r : MTx, e = .returned r.val ∧ r.p = T.p ∧ TxAt w' w'.heap.size r ∧ Below wx.heap.size wx w') := Lib.hid (fun wx hx => plain_any wx T hx.tx hx.i1 hx.o1)
    have HZ := Lib.hid HT.out.2
    rw [HZ.out.2] at HEN
    rw [HZ.out.1] at HCK
    rw [hval] at HEN HCK HPL
    clear hTC hlen
    go_wp2_with (show wpList _ _ _ (Oper.mk (some 63) _ _ _ _ _ :: _) _ _; refine wpList_load_mid rfl 26 (.tmp 5) rfl (b + 1 + 1) 0 rfl TC _ HRG.out Try.underlying26 rfl HSZ.out ?_)
    refine HEN.out.mono ?_
    rintro ee w4 ⟨v4, rfl, hz0, hz1, b4⟩
    have HS4 := Lib.hid (HT.out.1.more b4)
    have HZ0 := Lib.hid hz0
    have HZ1 := Lib.hid hz1
    have HRG4 := Lib.hid (HRR.out _ HS4.out)
    have hne : ((z : Int) != (z : Int)) = false := by simp
    clear hz0 hz1 b4 HRG HEN
    go_wp2_with (show wpList _ _ _ (Oper.mk (some 67) _ _ _ _ _ :: _) _ _; refine wpList_load_mid rfl 26 (.tmp 5) rfl (b + 1 + 1) 0 rfl TC _ HRG4.out Try.underlying26 rfl HSZ.out ?_)
    refine (HCK.out _ HS4.out).mono ?_
    rintro ee w5 ⟨rfl, b5⟩
    have HS5 := Lib.hid (HS4.out.more b5)
    have HB5 := Lib.hid b5
    clear b5
    by_cases hz : z = 0
    · subst hz
      have bf := HZ0.out rfl
      obtain ⟨A, c, hv4, hcl, hrd⟩ := bf.slice
      subst hv4
      have hcm := bf.cap_le
      obtain ⟨hch, hle⟩ := enc_ok HZ.out.2
      have hde := dec_enc T.p (small_of hch HS5.out.tx.pok) hle []
      rw [List.append_nil] at hde
      have HDE := Lib.hid (decode_any w5 A (layB T.p (hasW T.p)).length c (layB T.p (hasW T.p)) ((hrd.below HB5.out).up HB5.out.size) (layB_b8 HS5.out.tx.pok _) (by omega) hcl (by unfold maxLen at hcm; omega))
      have HDX := Lib.hid hde
      have hN : ((layB T.p (hasW T.p)).length : Int) ≤ 65536 := by omega
      generalize hNN : (layB T.p (hasW T.p)).length = N at *
      clear bf hrd hcl hcm hch hle hde hNN
      go_wp2_with fail
      refine HDE.out.mono ?_
      rintro ee w6 ⟨t, rfl, htp, hta, b6⟩
      rw [HDX.out] at htp ⊢
      simp only at htp ⊢
      have HS6 := Lib.hid (HS5.out.more b6)
      have hl1 : t.ins.length ≤ 100000 := by
        have := congrArg (fun q : PTx => q.ins.length) htp
        simp [MTx.p] at this
        have := HS5.out.i1
        omega
      have hl2 : t.outs.length ≤ 100000 := by
        have := congrArg (fun q : PTx => q.outs.length) htp
        simp [MTx.p] at this
        have := HS5.out.o1
        omega
      obtain ⟨ver, ins, ia, ic, outs, oa, oc, lock⟩ := t
      rw [show MTx.val ⟨ver, ins, ia, ic, outs, oa, oc, lock⟩ = .agg #[.int .i32 ver, .slice ia ins.length ic, .slice oa outs.length oc, .int .u32 (lock : Int)] from rfl]
      obtain ⟨XC, hXC⟩ : ∃ XC : List Value, XC = [.int .i32 ver, .slice ia ins.length ic, .slice oa outs.length oc, .int .u32 (lock : Int)] := ⟨_, rfl⟩
      have hXv : MTx.val ⟨ver, ins, ia, ic, outs, oa, oc, lock⟩ = .agg XC.toArray := by rw [hXC]; rfl
      have HSX := Lib.hid (show (Try.prog.info? 26).map (·.size) = some XC.length by rw [hXC]; kernel_rfl)
      obtain ⟨W7, e7⟩ : ∃ W7, W7 = w6.alloc (.cells #[.int .i32 ver, .slice ia ins.length ic, .slice oa outs.length oc, .int .u32 (lock : Int)] 26) := ⟨_, rfl⟩
      have b7 : Below w6.heap.size w6 W7 := by rw [e7]; exact (Below.refl _ _).alloc (Nat.le_refl _) _
      have x7 : Bx4 W7 w6.heap.size (.int .i32 ver) (.slice ia ins.length ic) (.slice oa outs.length oc) (.int .u32 (lock : Int)) := by rw [e7]; exact Bx4.new _ _ _ _ _ _
      have HS7 := Lib.hid (HS6.out.more b7)
      have HRX : Hid (∀ wx, Below W7.heap.size W7 wx → wx.rangeAt w6.heap.size 0 XC) := Lib.hid (fun wx hx => by rw [hXC]; exact rangeAt_below x7.rg hx x7.lt)
      have HRT : Hid (∀ wx, Below W7.heap.size W7 wx → wx.rangeAt (b + 1 + 1) 0 TC) := Lib.hid (fun wx hx => HRR.out _ (HS7.out.more hx))
      have HPT : Hid (∀ wx, Below W7.heap.size W7 wx → Calls Try.prog 12 #[.agg TC.toArray] wx fun e w' => ∃ r : MTx, e = .returned r.val ∧ r.p = T.p ∧ TxAt w' w'.heap.size r ∧ Below wx.heap.size wx w') := Lib.hid (fun wx hx => HPL.out wx (HS7.out.more hx))
      have HPX : Hid (∀ wx, Below W7.heap.size W7 wx → Calls Try.prog 12 #[.agg XC.toArray] wx fun e w' => ∃ r : MTx, e = .returned r.val ∧ r.p = T.p ∧ TxAt w' w'.heap.size r ∧ Below wx.heap.size wx w') := Lib.hid (fun wx hx => by
        rw [← hXv, ← htp]
        have hx6 := b7.trans (hx.mono b7.size)
        exact plain_any wx _ ((hta.below hx6).up hx6.size) hl1 hl2)
      have HW7 : Hid (Below w.heap.size w W7) := Lib.hid HS7.out.b
      have HE7 := Lib.hid e7
      clear htp hta b6 hl1 hl2 hXC hXv e7 b7 x7 HS6 HDE HDX
      go_upto_region 29 with fail
      rw [← HE7.out]
      refine wp_region_noPanic ?_
      refine wp_region_held_drew (S := (fun wx => Below W7.heap.size W7 wx)) (by kernel_rfl) (Below.drew' (Below.refl _ _)) (fun hHeld => ?_)
      refine wpAnyH_take (i := 0) (v := ?_) (by simp only [List.getElem?_toArray, List.getElem?_cons_succ, List.getElem?_cons_zero]; rfl) (by kernel_rfl) (by kernel_rfl) (by kernel_rfl) (fun _ _ _ h => h) (Or.inl ⟨by rfl, ?_⟩) (by assumption) ?_
      rotate_left
      · (intro w hSw; (try dsimp only at hSw); go_simp; (try with_reducible rfl))
      (try simp only [Act.put, List.setIfInBounds_toArray, List.set_cons_zero, List.set_cons_succ])
      refine wpAnyH_take (i := 1) (v := ?_) (by simp only [List.getElem?_toArray, List.getElem?_cons_succ, List.getElem?_cons_zero]; rfl) (by kernel_rfl) (by kernel_rfl) (by kernel_rfl) (fun _ _ _ h => h) (Or.inl ⟨by rfl, ?_⟩) (by assumption) ?_
      rotate_left
      · (intro w hSw; (try dsimp only at hSw); go_simp; (try with_reducible rfl))
      (try simp only [Act.put, List.setIfInBounds_toArray, List.set_cons_zero, List.set_cons_succ])
      refine wpAnyH_take (i := 2) (v := ?_) (by simp only [List.getElem?_toArray, List.getElem?_cons_succ, List.getElem?_cons_zero]; rfl) (by kernel_rfl) (by kernel_rfl) (by kernel_rfl) (fun _ _ _ h => h) (Or.inl ⟨by rfl, ?_⟩) (by assumption) ?_
      rotate_left
      · (intro w hSw; (try dsimp only at hSw); go_simp; (try with_reducible rfl))
      (try simp only [Act.put, List.setIfInBounds_toArray, List.set_cons_zero, List.set_cons_succ])
      refine wpAnyH_take (i := 3) (v := ?_) (by simp only [List.getElem?_toArray, List.getElem?_cons_succ, List.getElem?_cons_zero]; rfl) (by kernel_rfl) (by kernel_rfl) (by kernel_rfl) (fun _ _ _ h => h) (Or.inl ⟨by rfl, ?_⟩) (by assumption) ?_
      rotate_left
      · (intro w hSw; (try dsimp only at hSw); go_simp; (try with_reducible rfl))
      (try simp only [Act.put, List.setIfInBounds_toArray, List.set_cons_zero, List.set_cons_succ])
      refine wpAnyH_take (i := 4) (v := ?_) (by simp only [List.getElem?_toArray, List.getElem?_cons_succ, List.getElem?_cons_zero]; rfl) (by kernel_rfl) (by kernel_rfl) (by kernel_rfl) (fun _ _ _ h => h) (Or.inl ⟨by rfl, ?_⟩) (by assumption) ?_
      rotate_left
      · (intro w hSw; (try dsimp only at hSw); go_simp; (try with_reducible rfl))
      (try simp only [Act.put, List.setIfInBounds_toArray, List.set_cons_zero, List.set_cons_succ])
      refine wpAnyH_take (i := 5) (v := ?_) (by simp only [List.getElem?_toArray, List.getElem?_cons_succ, List.getElem?_cons_zero]; rfl) (by kernel_rfl) (by kernel_rfl) (by kernel_rfl) (fun _ _ _ h => h) (Or.inl ⟨by rfl, ?_⟩) (by assumption) ?_
      rotate_left
      · (intro w hSw; (try dsimp only at hSw); go_simp; (try with_reducible rfl))
      (try simp only [Act.put, List.setIfInBounds_toArray, List.set_cons_zero, List.set_cons_succ])
      refine wpAnyH_take (i := 6) (v := ?_) (by simp only [List.getElem?_toArray, List.getElem?_cons_succ, List.getElem?_cons_zero]; rfl) (by kernel_rfl) (by kernel_rfl) (by kernel_rfl) (fun _ _ _ h => h) (Or.inl ⟨by rfl, ?_⟩) (by assumption) ?_
      rotate_left
      · (intro w hSw; (try dsimp only at hSw); go_simp; (try with_reducible rfl))
      (try simp only [Act.put, List.setIfInBounds_toArray, List.set_cons_zero, List.set_cons_succ])
      refine wpAnyH_take (i := 7) (v := ?_) (by simp only [List.getElem?_toArray, List.getElem?_cons_succ, List.getElem?_cons_zero]; rfl) (by kernel_rfl) (by kernel_rfl) (by kernel_rfl) (fun _ _ _ h => h) (Or.inl ⟨by rfl, ?_⟩) (by assumption) ?_
      rotate_left
      · (intro w hSw; (try dsimp only at hSw); go_simp; (try with_reducible rfl))
      (try simp only [Act.put, List.setIfInBounds_toArray, List.set_cons_zero, List.set_cons_succ])
      refine wpAnyH_take (i := 8) (v := ?_) (by simp only [List.getElem?_toArray, List.getElem?_cons_succ, List.getElem?_cons_zero]; rfl) (by kernel_rfl) (by kernel_rfl) (by kernel_rfl) (fun _ _ _ h => h) (Or.inl ⟨by rfl, ?_⟩) (by assumption) ?_
      rotate_left
      · (intro w hSw; (try dsimp only at hSw); go_simp; (try with_reducible rfl))
      (try simp only [Act.put, List.setIfInBounds_toArray, List.set_cons_zero, List.set_cons_succ])
      refine wpAnyH_take (i := 9) (v := .agg (XC).toArray) (by simp only [List.getElem?_toArray, List.getElem?_cons_succ, List.getElem?_cons_zero]; rfl) (by kernel_rfl) (by kernel_rfl) (by kernel_rfl) (fun _ _ _ h => h) (yieldsIf_load_mid (by first | kernel_rfl | rfl) 26 (.tmp 9) rfl w6.heap.size (0) rfl (XC) _ (fun wx hx => HRX.out wx hx) Try.underlying26 rfl (HSX.out)) (by assumption) ?_
      (try simp only [Act.put, List.setIfInBounds_toArray, List.set_cons_zero, List.set_cons_succ])
      refine wpAnyH_take (i := 11) (v := .agg (TC).toArray) (by simp only [List.getElem?_toArray, List.getElem?_cons_succ, List.getElem?_cons_zero]; rfl) (by kernel_rfl) (by kernel_rfl) (by kernel_rfl) (fun _ _ _ h => h) (yieldsIf_load_mid (by first | kernel_rfl | rfl) 26 (.tmp 5) rfl (b + 1 + 1) (0) rfl (TC) _ (fun wx hx => HRT.out wx hx) Try.underlying26 rfl (HSZ.out)) (by assumption) ?_
      (try simp only [Act.put, List.setIfInBounds_toArray, List.set_cons_zero, List.set_cons_succ])
      refine wpAnyH_ready (rs := [10]) (by kernel_rfl) (by simp) ?_
      refine AllReadyH.cons (by simp only [List.getElem?_toArray, List.getElem?_cons_succ, List.getElem?_cons_zero]; rfl) (fun K hK => ?_) AllReadyH.nil
      go_simp
      refine (HPX.out _ hHeld).mono ?_
      rintro ee w8 ⟨r1, rfl, hp1, ht1, b8⟩
      refine hK.out _ _ ?_ (fun hHeld => ?_)
      · exact hHeld.trans (b8.mono hHeld.size)
      clear hK K
      (try simp only [Act.put, List.setIfInBounds_toArray, List.set_cons_zero, List.set_cons_succ])
      refine wpAnyH_ready (rs := [12]) (by kernel_rfl) (by simp) ?_
      refine AllReadyH.cons (by simp only [List.getElem?_toArray, List.getElem?_cons_succ, List.getElem?_cons_zero]; rfl) (fun K hK => ?_) AllReadyH.nil
      go_simp
      refine (HPT.out _ hHeld).mono ?_
      rintro ee w9 ⟨r2, rfl, hp2, ht2, b9⟩
      refine hK.out _ _ ?_ (fun hHeld => ?_)
      · exact hHeld.trans (b9.mono hHeld.size)
      clear hK K
      (try simp only [Act.put, List.setIfInBounds_toArray, List.set_cons_zero, List.set_cons_succ])
      refine wpAnyH_ready (rs := [13]) (by kernel_rfl) (by simp) ?_
      refine AllReadyH.cons (by simp only [List.getElem?_toArray, List.getElem?_cons_succ, List.getElem?_cons_zero]; rfl) (fun K hK => ?_) AllReadyH.nil
      go_simp
      refine (same_any _ r1 r2 ((ht1.below b9).up b9.size) ht2 (by rw [hp1, hp2])).mono ?_
      rintro ee w10 ⟨rfl, b10⟩
      refine hK.out _ _ ?_ (fun hHeld => ?_)
      · exact hHeld.trans (b10.mono hHeld.size)
      clear hK K
      (try simp only [Act.put, List.setIfInBounds_toArray, List.set_cons_zero, List.set_cons_succ])
      refine wpAnyH_take (i := 14) (v := ?_) (by simp only [List.getElem?_toArray, List.getElem?_cons_succ, List.getElem?_cons_zero]; rfl) (by kernel_rfl) (by kernel_rfl) (by kernel_rfl) (fun _ _ _ h => h) (Or.inl ⟨by rfl, ?_⟩) (by assumption) ?_
      rotate_left
      · (intro w hSw; (try dsimp only at hSw); go_simp; (try with_reducible rfl))
      (try simp only [Act.put, List.setIfInBounds_toArray, List.set_cons_zero, List.set_cons_succ])
      refine wpAnyH_take (i := 15) (v := ?_) (by simp only [List.getElem?_toArray, List.getElem?_cons_succ, List.getElem?_cons_zero]; rfl) (by kernel_rfl) (by kernel_rfl) (by kernel_rfl) (fun _ _ _ h => h) (Or.inl ⟨by rfl, ?_⟩) (by assumption) ?_
      rotate_left
      · (intro w hSw; (try dsimp only at hSw); go_simp; (try with_reducible rfl))
      (try simp only [Act.put, List.setIfInBounds_toArray, List.set_cons_zero, List.set_cons_succ])
      refine wpAnyH_done (by kernel_rfl) ?_ _
      refine NoPanic.normal ?_
      go_wp2_with fail
      go_ret
      exact ⟨rfl, HW7.out.trans (hHeld.mono HW7.out.size)⟩
    · have hz1 := HZ1.out hz
      subst hz1
      have hq1 : ((z : Int) != 0) = true := by simp [bne]; omega
      have hq2 : ((z : Int) == 0) = false := by simp; omega
      clear hz
      go_wp2
      go_ret
      exact ⟨rfl, HS5.out.b⟩
end Go.Proofs.Ytkdkihacpjhgmaa
