/- A nil Table. -/
import Derived.Test.YtgdkcnpgnmmliabO0
namespace Go.Proofs.Ytgdkcnpgnmmliab
set_option linter.unusedSimpArgs false
set_option linter.unusedVariables false
open Go.RowKit

set_option maxHeartbeats 400000 in
theorem ordered_nil (w : World) : Calls Try.prog 46 #[.pointer none] w fun e w' => e = .returned (.bool false) ∧ w = w' := by
  go_enter Try.func46, Try.ntmps46
  go_wp2
  go_ret
  exact ⟨rfl, rfl⟩
set_option maxHeartbeats 400000 in
theorem slen_nil (w : World) : Calls Try.prog 38 #[.pointer none] w fun e w' => e = .returned (.int .i64 0) ∧ w = w' := by
  go_enter Try.func38, Try.ntmps38
  go_wp2
  go_ret
  exact ⟨rfl, rfl⟩
set_option maxHeartbeats 400000 in
theorem find_nil (x : En) (w : World) : Calls Try.prog 47 #[.pointer none, x.val] w fun e w' => e = .returned (.tuple #[.int .i64 0, .bool false]) ∧ Below w.heap.size w w' := by
  go_enter Try.func47, Try.ntmps47
  go_wp2_with (go_at_call 46; refine (ordered_nil _).mono ?_; rintro e w' ⟨rfl, rfl⟩)
  go_ret2
  exact ⟨rfl, (Below.refl _ _).alloc (Nat.le_refl _) _⟩
set_option maxHeartbeats 400000 in
theorem seek_nil (x : En) (w : World) : Calls Try.prog 40 #[.pointer none, x.val] w fun e w' => e = .returned (.int .i64 0) ∧ Below w.heap.size w w' := by
  go_enter Try.func40, Try.ntmps40
  go_wp2_with (go_at_call 47; refine (find_nil x _).mono ?_; rintro e w' ⟨rfl, hb⟩)
  go_ret
  exact ⟨rfl, ((Below.refl _ _).alloc (Nat.le_refl _) _).trans (hb.mono (by simp))⟩
set_option maxHeartbeats 400000 in
theorem sat_nil (w : World) : Calls Try.prog 39 #[.pointer none, .int .i64 0] w fun e w' => e = .returned (.tuple #[zEn.val, .bool false]) ∧ Below w.heap.size w w' := by
  go_enter Try.func39, Try.ntmps39
  go_wp2_with (go_at_call 38; refine (slen_nil _).mono ?_; rintro e w' ⟨rfl, rfl⟩)
  refine bodyPost_ret (v := .tuple #[zEn.val, .bool false]) (by simp [results, Try.results39, go_sem]) rfl ⟨rfl, ?_⟩
  exact ((Below.refl _ _).alloc (Nat.le_refl _) _).alloc (by simp) _
set_option maxHeartbeats 1000000 in
theorem from_nil (x : En) (w : World) : Calls Try.prog 25 #[.pointer none, x.val] w fun e w' => e = .returned (.int .i64 0) ∧ Below w.heap.size w w' := by
  have HK := Lib.hid (fun W => seek_nil x W)
  go_enter Try.func25, Try.ntmps25
  go_upto_region 1 with fail
  generalize hw0 : w.alloc (.cells #[.string x.k, .int .u64 x.S, .bool x.d, .string x.v] 42) = w0
  have HB0 : Hid (Below w.heap.size w w0) := by rw [← hw0]; exact Lib.hid ((Below.refl _ _).alloc (Nat.le_refl _) _)
  have HX0 : Hid (Bx4 w0 w.heap.size (.string x.k) (.int .u64 x.S) (.bool x.d) (.string x.v)) := by rw [← hw0]; exact Lib.hid (Bx4.new w _ _ _ _ _)
  clear hw0
  generalize hb : w.heap.size = b at *
  have HBb := Lib.hid hb
  clear hb
  have HX := HX0.out
  have hsz : b + 1 ≤ w0.heap.size := HX.lt
  have HT : Hid (∀ wx, Below w0.heap.size w0 wx → wx.cell? ⟨b, 0, none⟩ = some (.string x.k) ∧ wx.cell? ⟨b, 1, none⟩ = some (.int .u64 x.S) ∧ wx.cell? ⟨b, 2, none⟩ = some (.bool x.d) ∧ wx.cell? ⟨b, 3, none⟩ = some (.string x.v)) := Lib.hid fun wx h =>
    ⟨(h.cell (p := ⟨b, 0, none⟩) hsz).trans HX.c0, (h.cell (p := ⟨b, 1, none⟩) hsz).trans HX.c1, (h.cell (p := ⟨b, 2, none⟩) hsz).trans HX.c2, (h.cell (p := ⟨b, 3, none⟩) hsz).trans HX.c3⟩
  clear HX HX0
  refine wp_region_noPanic ?_
  refine wp_region_held_drew (S := (fun wx => Below w0.heap.size w0 wx ∧ wx.cell? ⟨b, 0, none⟩ = some (.string x.k) ∧ wx.cell? ⟨b, 1, none⟩ = some (.int .u64 x.S) ∧ wx.cell? ⟨b, 2, none⟩ = some (.bool x.d) ∧ wx.cell? ⟨b, 3, none⟩ = some (.string x.v))) (by kernel_rfl) (⟨(Below.refl _ _).drew, HT.out _ (Below.refl _ _).drew⟩) (fun hHeld => ?_)
  refine wpAnyH_take (i := 0) (v := ?_) (by simp only [List.getElem?_toArray, List.getElem?_cons_succ, List.getElem?_cons_zero]; rfl) (by kernel_rfl) (by kernel_rfl) (by kernel_rfl) (fun _ _ _ h => h) (Or.inl ⟨by rfl, ?_⟩) (by assumption) ?_
  rotate_left
  · (intro w hSw; (try dsimp only at hSw); go_simp; (try with_reducible rfl))
  (try simp only [Act.put, List.setIfInBounds_toArray, List.set_cons_zero, List.set_cons_succ])
  refine wpAnyH_take (i := 2) (v := ?_) (by simp only [List.getElem?_toArray, List.getElem?_cons_succ, List.getElem?_cons_zero]; rfl) (by kernel_rfl) (by kernel_rfl) (by kernel_rfl) (fun _ _ _ h => h) (Or.inl ⟨by rfl, ?_⟩) (by assumption) ?_
  rotate_left
  · (intro w hSw; (try dsimp only at hSw); go_simp; (try with_reducible rfl))
  (try simp only [Act.put, List.setIfInBounds_toArray, List.set_cons_zero, List.set_cons_succ])
  refine wpAnyH_ready (rs := [1]) (by kernel_rfl) (by simp) ?_
  refine AllReadyH.cons (by simp only [List.getElem?_toArray, List.getElem?_cons_succ, List.getElem?_cons_zero]; rfl) (fun K hK => ?_) AllReadyH.nil
  go_simp
  refine (sorted_nil _).mono ?_
  rintro ee w' ⟨rfl, rfl⟩
  refine hK.out _ _ ?_ (fun hHeld => ?_)
  · exact hHeld
  clear hK K
  (try simp only [Act.put, List.setIfInBounds_toArray, List.set_cons_zero, List.set_cons_succ])
  refine wpAnyH_ready (rs := [3]) (by kernel_rfl) (by simp) ?_
  refine AllReadyH.cons (by simp only [List.getElem?_toArray, List.getElem?_cons_succ, List.getElem?_cons_zero]; rfl) (fun K hK => ?_) AllReadyH.nil
  go_simp
  refine (HK.out _).mono ?_
  rintro ee w' ⟨rfl, hb'⟩
  have hB2 := hHeld.1.trans (hb'.mono hHeld.1.size)
  refine hK.out _ _ ?_ (fun hHeld => ?_)
  · exact ⟨hB2, HT.out _ hB2⟩
  clear hK K
  (try simp only [Act.put, List.setIfInBounds_toArray, List.set_cons_zero, List.set_cons_succ])
  refine wpAnyH_take (i := 4) (v := ?_) (by simp only [List.getElem?_toArray, List.getElem?_cons_succ, List.getElem?_cons_zero]; rfl) (by kernel_rfl) (by kernel_rfl) (by kernel_rfl) (fun _ _ _ h => h) (Or.inl ⟨by rfl, ?_⟩) (by assumption) ?_
  rotate_left
  · (intro w hSw; (try dsimp only at hSw); go_simp; (try with_reducible rfl))
  (try simp only [Act.put, List.setIfInBounds_toArray, List.set_cons_zero, List.set_cons_succ])
  refine wpAnyH_done (by kernel_rfl) ?_ _
  refine NoPanic.normal ?_
  have HB9 := Lib.hid (HB0.out.trans (hB2.mono (by omega)))
  clear hB2 hb' hHeld
  go_wp2
  go_ret
  exact ⟨rfl, by rw [HBb.out]; exact HB9.out⟩
set_option maxHeartbeats 1000000 in
theorem tat_nil (w : World) : Calls Try.prog 24 #[.pointer none, .int .i64 0] w fun e w' => e = .returned (.tuple #[zEn.val, .bool false]) ∧ Below w.heap.size w w' := by
  have HA := Lib.hid (fun W => sat_nil W)
  go_enter Try.func24, Try.ntmps24
  go_upto_region 1 with fail
  generalize hw0 : w.alloc (.cells #[.string ⟨#[]⟩, .int .u64 0, .bool false, .string ⟨#[]⟩] 42) = w0
  have hb0 : Below w.heap.size w w0 := by rw [← hw0]; exact (Below.refl _ _).alloc (Nat.le_refl _) _
  have X : Bx4 w0 w.heap.size (.string ⟨#[]⟩) (.int .u64 0) (.bool false) (.string ⟨#[]⟩) := by rw [← hw0]; exact Bx4.new w _ _ _ _ _
  have HB0 := Lib.hid hb0
  have HX := Lib.hid X
  clear hw0 hb0 X
  go_wp2_with (first
    | (go_at_call 37; refine (sorted_nil _).mono ?_; rintro e w' ⟨rfl, rfl⟩)
    | (go_at_call 39; refine (HA.out _).mono ?_; rintro e w1 ⟨rfl, hb1⟩
       have X := HX.out.keep (hb1.block _ HX.out.lt)
       have a0 := X.c0
       have a1 := X.c1
       have a2 := X.c2
       have a3 := X.c3
       have z0 := X.cold 0
       have z1 := X.cold 1
       have z2 := X.cold 2
       have z3 := X.cold 3
       have HB1 := Lib.hid (HB0.out.trans (hb1.mono (Nat.le_of_lt HX.out.lt)))
       clear X hb1))
  have q := (At4.mk a0 a1 a2 a3 z0 z1 z2 z3).set (.string zEn.k) (.int .u64 zEn.S) (.bool zEn.d) (.string zEn.v)
  have hbw := below_set4 HB1.out (Nat.le_refl _) (.string zEn.k) (.int .u64 zEn.S) (.bool zEn.d) (.string zEn.v)
  generalize ((((w1.setCell ⟨w.heap.size, 0, none⟩ (.string zEn.k)).setCell ⟨w.heap.size, 1, none⟩ (.int .u64 zEn.S)).setCell ⟨w.heap.size, 2, none⟩ (.bool zEn.d)).setCell ⟨w.heap.size, 3, none⟩ (.string zEn.v)) = W at q hbw ⊢
  obtain ⟨q0, q1, q2, q3, _, _, _, _⟩ := q
  exact bodyPost_ret (v := .tuple #[zEn.val, .bool false]) (by simp [results, Try.results24, go_sem, q0, q1, q2, q3]) rfl ⟨rfl, hbw⟩
set_option maxHeartbeats 400000 in
theorem tlen_nil (w : World) : Calls Try.prog 22 #[.pointer none] w fun e w' => e = .returned (.int .i64 0) ∧ w = w' := by
  go_enter Try.func22, Try.ntmps22
  go_wp2_with (first
    | (go_at_call 37; refine (sorted_nil _).mono ?_; rintro e w' ⟨rfl, rfl⟩)
    | (go_at_call 38; refine (slen_nil _).mono ?_; rintro e w' ⟨rfl, rfl⟩))
  go_ret
  exact ⟨rfl, rfl⟩
set_option maxHeartbeats 400000 in
theorem tsize_nil (w : World) : Calls Try.prog 23 #[.pointer none] w fun e w' => e = .returned (.int .i64 0) ∧ w = w' := by
  go_enter Try.func23, Try.ntmps23
  go_wp2
  go_ret
  exact ⟨rfl, rfl⟩
set_option maxHeartbeats 400000 in
theorem all_nil (w : World) : Calls Try.prog 21 #[.pointer none] w fun e w' => e = .returned (.slice none 0 0) ∧ w = w' := by
  go_enter Try.func21, Try.ntmps21
  go_wp2_with (go_at_call 22; refine (tlen_nil _).mono ?_; rintro e w' ⟨rfl, rfl⟩)
  go_ret
  exact ⟨rfl, rfl⟩
set_option maxHeartbeats 400000 in
theorem add_nil (x : En) (w : World) : Calls Try.prog 20 #[.pointer none, x.val] w fun e w' => e = .returned (.int .i64 1) ∧ Below w.heap.size w w' := by
  go_enter Try.func20, Try.ntmps20
  go_wp2
  go_ret
  exact ⟨rfl, (Below.refl _ _).alloc (Nat.le_refl _) _⟩
set_option maxHeartbeats 1000000 in
theorem get_nil (a : ByteArray) (s : Int) (w : World) : Calls Try.prog 26 #[.pointer none, .string a, .int .u64 s] w fun e w' => e = .returned (.tuple #[zEn.val, .bool false]) ∧ Below w.heap.size w w' := by
  go_enter Try.func26, Try.ntmps26
  go_upto_region 1 with fail
  generalize hw0 : w.alloc (.cells #[.string ⟨#[]⟩, .int .u64 0, .bool false, .string ⟨#[]⟩] 42) = w0
  have HB0 : Hid (Below w.heap.size w w0) := by rw [← hw0]; exact Lib.hid ((Below.refl _ _).alloc (Nat.le_refl _) _)
  have HX0 : Hid (Bx4 w0 w.heap.size (.string ⟨#[]⟩) (.int .u64 0) (.bool false) (.string ⟨#[]⟩)) := by rw [← hw0]; exact Lib.hid (Bx4.new w _ _ _ _ _)
  clear hw0
  go_upto_region 2 with (first
    | (go_at_call 25; refine (from_nil (kEn a s) _).mono ?_; rintro e w1 ⟨rfl, hb1⟩
       have HB1 := Lib.hid (HB0.out.trans (hb1.mono (Nat.le_of_lt HX0.out.lt)))
       have HX1 := Lib.hid (HX0.out.keep (hb1.block _ HX0.out.lt))
       clear hb1)
    | (go_at_call 24; refine (tat_nil _).mono ?_; rintro e w2 ⟨rfl, hb2⟩
       have HB2 := Lib.hid (HB1.out.trans (hb2.mono (Nat.le_of_lt HX1.out.lt)))
       have HX2 := Lib.hid (HX1.out.keep (hb2.block _ HX1.out.lt))
       clear hb2))
  generalize hw3 : w2.alloc _ = w3
  have b3 : Below w2.heap.size w2 w3 := by rw [← hw3]; exact (Below.refl _ _).alloc (Nat.le_refl _) _
  have HB3 := Lib.hid (HB2.out.trans (b3.mono (Nat.le_of_lt HX2.out.lt)))
  have X := HX2.out.keep (b3.block _ HX2.out.lt)
  have a0 := X.c0
  have a1 := X.c1
  have a2 := X.c2
  have a3 := X.c3
  have z0 := X.cold 0
  have z1 := X.cold 1
  have z2 := X.cold 2
  have z3 := X.cold 3
  clear hw3 b3 X
  go_wp2
  have q := (At4.mk a0 a1 a2 a3 z0 z1 z2 z3).set (.string zEn.k) (.int .u64 zEn.S) (.bool zEn.d) (.string zEn.v)
  have hbw := below_set4 HB3.out (Nat.le_refl _) (.string zEn.k) (.int .u64 zEn.S) (.bool zEn.d) (.string zEn.v)
  generalize ((((w3.setCell ⟨w.heap.size, 0, none⟩ (.string zEn.k)).setCell ⟨w.heap.size, 1, none⟩ (.int .u64 zEn.S)).setCell ⟨w.heap.size, 2, none⟩ (.bool zEn.d)).setCell ⟨w.heap.size, 3, none⟩ (.string zEn.v)) = W at q hbw ⊢
  obtain ⟨q0, q1, q2, q3, _, _, _, _⟩ := q
  exact bodyPost_ret (v := .tuple #[zEn.val, .bool false]) (by simp [results, Try.results26, go_sem, q0, q1, q2, q3]) rfl ⟨rfl, hbw⟩
end Go.Proofs.Ytgdkcnpgnmmliab
