/- A Sorted of entries: At, and Put of what isn't there. -/
import Derived.Test.YtgdkcnpgnmmliabS3
namespace Go.Proofs.Ytgdkcnpgnmmliab
set_option linter.unusedSimpArgs false
set_option linter.unusedVariables false
open Go.RowKit

abbrev zEn : En := ⟨⟨#[]⟩, 0, false, ⟨#[]⟩⟩

set_option maxHeartbeats 1000000 in
theorem at_in (base gs i : Nat) (v : Value) (L : List En) (y : En) (w : World) (h : Sd w base gs v L) (hn6 : (L.length : Int) ≤ 1000000) (hy : L[i]? = some y) :
    Calls Try.prog 39 #[.pointer (some ⟨gs, 0, none⟩), .int .i64 (i : Int)] w fun e w' =>
      e = .returned (.tuple #[y.val, .bool true]) ∧ Below w.heap.size w w' := by
  obtain ⟨A, c, rfl, hnc, hcm, hr⟩ := own_rdN h.own
  have hi : i < L.length := (List.getElem?_eq_some_iff.1 hy).1
  obtain ⟨g, off, rfl, hg, c0, c1, c2, c3⟩ := hr.ent i y hy
  have b1 := h.box.c1
  have hgs := h.box.lt
  have hg0 := Nat.ne_of_lt hg
  have hgs0 := Nat.ne_of_lt hgs
  generalize L.length = n at *
  have HL := Lib.hid (fun W hb => len_any gs n c (some ⟨g, off, none⟩) .nilFunc W hb)
  clear hr h hy
  go_enter Try.func39, Try.ntmps39
  go_upto_region 1 with fail
  generalize hw0 : w.alloc (.cells #[.string ⟨#[]⟩, .int .u64 0, .bool false, .string ⟨#[]⟩] 42) = w0
  have hb0 : Below w.heap.size w w0 := by rw [← hw0]; exact (Below.refl _ _).alloc (Nat.le_refl _) _
  obtain ⟨a0, a1, a2, a3, az⟩ : Bx4 w0 w.heap.size (.string ⟨#[]⟩) (.int .u64 0) (.bool false) (.string ⟨#[]⟩) := by rw [← hw0]; exact Bx4.new w _ _ _ _ _
  have z0 := az 0
  have z1 := az 1
  have z2 := az 2
  have z3 := az 3
  have d0 := (hb0.cell (p := ⟨g, off + i * 4, none⟩) hg).trans c0
  have d1 := (hb0.cell (p := ⟨g, off + i * 4 + 1, none⟩) hg).trans c1
  have d2 := (hb0.cell (p := ⟨g, off + i * 4 + 2, none⟩) hg).trans c2
  have d3 := (hb0.cell (p := ⟨g, off + i * 4 + 3, none⟩) hg).trans c3
  have e1 := (hb0.cell (p := ⟨gs, 1, none⟩) hgs).trans b1
  have HB := Lib.hid hb0
  clear hw0 c0 c1 c2 c3 b1 az hb0
  go_wp2_with (go_at_call 38; refine (HL.out _ e1).mono ?_; rintro e w' ⟨rfl, rfl⟩)
  have q := (At4.mk a0 a1 a2 a3 z0 z1 z2 z3).set (.string y.k) (.int .u64 y.S) (.bool y.d) (.string y.v)
  have hbw := below_set4 HB.out (Nat.le_refl _) (.string y.k) (.int .u64 y.S) (.bool y.d) (.string y.v)
  generalize ((((w0.setCell ⟨w.heap.size, 0, none⟩ (.string y.k)).setCell ⟨w.heap.size, 1, none⟩ (.int .u64 y.S)).setCell ⟨w.heap.size, 2, none⟩ (.bool y.d)).setCell ⟨w.heap.size, 3, none⟩ (.string y.v)) = W at q hbw ⊢
  obtain ⟨q0, q1, q2, q3, _, _, _, _⟩ := q
  exact bodyPost_ret (v := .tuple #[y.val, .bool true]) (by simp [results, Try.results39, go_sem, q0, q1, q2, q3]) rfl ⟨rfl, hbw⟩

set_option maxHeartbeats 1000000 in
theorem at_out (base gs : Nat) (i : Int) (v : Value) (L : List En) (w : World) (h : Sd w base gs v L) (hn6 : (L.length : Int) ≤ 1000000) (hi : i < 0 ∨ (L.length : Int) ≤ i) :
    Calls Try.prog 39 #[.pointer (some ⟨gs, 0, none⟩), .int .i64 i] w fun e w' =>
      e = .returned (.tuple #[zEn.val, .bool false]) ∧ Below w.heap.size w w' := by
  obtain ⟨A, c, rfl, hnc, hcm, hr⟩ := own_rdN h.own
  have b1 := h.box.c1
  have hgs := h.box.lt
  have hgs0 := Nat.ne_of_lt hgs
  generalize L.length = n at *
  have HL := Lib.hid (fun W hb => len_any gs n c A .nilFunc W hb)
  clear hr h
  rcases hi with hi | hi
  · go_enter Try.func39, Try.ntmps39
    go_wp2
    refine bodyPost_ret (v := .tuple #[zEn.val, .bool false]) (by simp [results, Try.results39, go_sem]) rfl ⟨rfl, ?_⟩
    exact ((Below.refl _ _).alloc (Nat.le_refl _) _).alloc (by simp) _
  · have h0 : ¬ i < 0 := by omega
    go_enter Try.func39, Try.ntmps39
    go_wp2_with (go_at_call 38; refine (HL.out _ ((((Below.refl _ _).alloc (Nat.le_refl _) _).cell (p := ⟨gs, 1, none⟩) hgs).trans b1)).mono ?_; rintro e w' ⟨rfl, rfl⟩)
    refine bodyPost_ret (v := .tuple #[zEn.val, .bool false]) (by simp [results, Try.results39, go_sem]) rfl ⟨rfl, ?_⟩
    exact ((Below.refl _ _).alloc (Nat.le_refl _) _).alloc (by simp) _
end Go.Proofs.Ytgdkcnpgnmmliab
