/- page.Of: changes as pairs. -/
import Derived.Test.YtalcdmpjpphopaaOA
namespace Go.Proofs.Ytalcdmpjpphopaa
set_option linter.unusedSimpArgs false
set_option linter.unusedVariables false
open Go.RowKit

theorem inner_en (x : En) (h : x.ok) (w : World) : Calls Try.prog 35 #[x.val] w fun e w' => e = .returned (.string (strB (prE x).1)) ∧ Below w.heap.size w w' := by
  have := inner_any (bl x.k) (bl_lt _) (by rw [bl_len]; have := h.2.2.2.1; omega) x.S.toNat (by rw [Int.toNat_of_nonneg h.1]; exact h.2.1) x.d x.v w
  rw [strB_bl, Int.toNat_of_nonneg h.1] at this
  exact this

set_option maxHeartbeats 2000000 in
set_option maxRecDepth 100000 in
theorem of_any (A : Option Addr) (c : Nat) (L : List En) (w : World) (hr : RdN w w.heap.size 4 A L.length (flat L)) (hok : ∀ x ∈ L, x.ok) (hl : (L.length : Int) ≤ 1000000) :
    Calls Try.prog 20 #[.slice A L.length c] w fun e w' => ∃ v, e = .returned v ∧ w'.ownsRow w.heap.size 30 2 v L.length (prC2 (L.map prE)) ∧ Below w.heap.size w w' := by
  have HR := Lib.hid hr
  have HOK := Lib.hid hok
  obtain ⟨n, hn⟩ : ∃ n, n = L.length := ⟨_, rfl⟩
  rw [← hn] at hl ⊢
  have HN := Lib.hid hn
  obtain ⟨B, hB⟩ : ∃ B, B = w.heap.size := ⟨_, rfl⟩
  rw [← hB]
  have HBB := Lib.hid hB
  clear hr hok hn hB
  go_enter Try.func20, Try.ntmps20
  go_upto_region 3 with fail
  go_loopg [3, 8] n (fun kx s3 s8 wr => ∃ i : Nat, i ≤ n ∧ s8 = .int .i64 i ∧ n - i ≤ kx ∧ Hid (wr.ownsRow B 30 2 s3 i (prC2 ((L.take i).map prE))) ∧ Hid (Below B w wr))
  case atStart => exact ⟨0, Nat.zero_le _, rfl, Nat.le_refl _, Lib.hid ⟨rfl, .inl ⟨rfl, rfl⟩⟩, Lib.hid (Below.refl _ _)⟩
  case round =>
    obtain ⟨i, hi, rfl, hkx, HO, HW⟩ := hrel
    have HX := Lib.hid hkx
    clear hkx
    by_cases hlt : i < n
    · obtain ⟨y, hy⟩ : ∃ y, L[i]? = some y := ⟨_, List.getElem?_eq_getElem (by have := HN.out; omega)⟩
      have HY := Lib.hid hy
      have hyo := HOK.out y (List.mem_of_getElem? hy)
      have HIN := Lib.hid (fun W => inner_en y hyo W)
      have HV : Hid ((prE y).2 = bl y.v) := Lib.hid rfl
      have hBW : B ≤ wr.heap.size := by rw [HBB.out]; exact HW.out.size
      obtain ⟨g, off, rfl, hgb, c0, c1, c2, c3⟩ := (HR.out.below (by rw [← HBB.out]; exact HW.out)).ent i y hy
      obtain ⟨A3, c3', rfl, _, _, _⟩ := own_rdN HO.out
      clear hy hyo
      go_upto_region 5 with fail
      generalize hw0 : wr.alloc (.cells #[.string y.k, .int .u64 y.S, .bool y.d, .string y.v] 45) = w0
      have b0 : Below wr.heap.size wr w0 := by rw [← hw0]; exact (Below.refl _ _).alloc (Nat.le_refl _) _
      have X0 : Bx4 w0 wr.heap.size (.string y.k) (.int .u64 y.S) (.bool y.d) (.string y.v) := by rw [← hw0]; exact Bx4.new wr _ _ _ _ _
      have hown0 := ownN_below HO.out b0 (fun k hk => (HO.out.lt k hk).2)
      have HOL := Lib.hid (fun k hk => (HO.out.lt k hk).2)
      have hB0 : Below B w w0 := HW.out.trans (b0.mono hBW)
      obtain ⟨b, hbb⟩ : ∃ b, b = wr.heap.size := ⟨_, rfl⟩
      rw [← hbb] at X0 HOL ⊢
      have hb0 : b < w0.heap.size := X0.lt
      have hBb : B ≤ b := by rw [hbb]; exact hBW
      have HK : Hid (∀ wx : World, wx.heap[b]? = w0.heap[b]? → wx.cell? ⟨b, 0, none⟩ = some (.string y.k) ∧ wx.cell? ⟨b, 1, none⟩ = some (.int .u64 y.S) ∧ wx.cell? ⟨b, 2, none⟩ = some (.bool y.d) ∧ wx.cell? ⟨b, 3, none⟩ = some (.string y.v)) := Lib.hid fun wx h => by
        have X := X0.keep h
        exact ⟨X.c0, X.c1, X.c2, X.c3⟩
      have HOWN := Lib.hid hown0
      have HB0 := Lib.hid hB0
      clear hw0 b0 X0 hown0 hbb c0 c1 c2 c3 hB0
      refine wp_region_noPanic ?_
      refine wp_region_held_drew (S := (fun wx => Below B w wx ∧ wx.heap[b]? = w0.heap[b]? ∧ wx.cell? ⟨b, 0, none⟩ = some (.string y.k) ∧ wx.cell? ⟨b, 1, none⟩ = some (.int .u64 y.S) ∧ wx.cell? ⟨b, 2, none⟩ = some (.bool y.d) ∧ wx.cell? ⟨b, 3, none⟩ = some (.string y.v))) (by kernel_rfl) (⟨HB0.out.drew, rfl, HK.out _ rfl⟩) (fun hHeld => ?_)
      refine wpAnyH_take (i := 0) (v := ?_) (by simp only [List.getElem?_toArray, List.getElem?_cons_succ, List.getElem?_cons_zero]; rfl) (by kernel_rfl) (by kernel_rfl) (by kernel_rfl) (fun _ _ _ h => h) (Or.inl ⟨by rfl, ?_⟩) (by assumption) ?_
      rotate_left
      · (intro w hSw; (try dsimp only at hSw); go_simp; (try with_reducible rfl))
      (try simp only [Act.put, List.setIfInBounds_toArray, List.set_cons_zero, List.set_cons_succ])
      refine wpAnyH_take (i := 1) (v := ?_) (by simp only [List.getElem?_toArray, List.getElem?_cons_succ, List.getElem?_cons_zero]; rfl) (by kernel_rfl) (by kernel_rfl) (by kernel_rfl) (fun _ _ _ h => h) (Or.inl ⟨by rfl, ?_⟩) (by assumption) ?_
      rotate_left
      · (intro w hSw; (try dsimp only at hSw); go_simp; (try with_reducible rfl))
      (try simp only [Act.put, List.setIfInBounds_toArray, List.set_cons_zero, List.set_cons_succ])
      refine wpAnyH_take (i := 3) (v := ?_) (by simp only [List.getElem?_toArray, List.getElem?_cons_succ, List.getElem?_cons_zero]; rfl) (by kernel_rfl) (by kernel_rfl) (by kernel_rfl) (fun _ _ _ h => h) (Or.inl ⟨by rfl, ?_⟩) (by assumption) ?_
      rotate_left
      · (intro w hSw; (try dsimp only at hSw); go_simp; (try with_reducible rfl))
      (try simp only [Act.put, List.setIfInBounds_toArray, List.set_cons_zero, List.set_cons_succ])
      refine wpAnyH_take (i := 4) (v := ?_) (by simp only [List.getElem?_toArray, List.getElem?_cons_succ, List.getElem?_cons_zero]; rfl) (by kernel_rfl) (by kernel_rfl) (by kernel_rfl) (fun _ _ _ h => h) (Or.inl ⟨by rfl, ?_⟩) (by assumption) ?_
      rotate_left
      · (intro w hSw; (try dsimp only at hSw); go_simp; (try with_reducible rfl))
      (try simp only [Act.put, List.setIfInBounds_toArray, List.set_cons_zero, List.set_cons_succ])
      refine wpAnyH_ready (rs := [2]) (by kernel_rfl) (by simp) ?_
      refine AllReadyH.cons (by simp only [List.getElem?_toArray, List.getElem?_cons_succ, List.getElem?_cons_zero]; rfl) (fun K hK => ?_) AllReadyH.nil
      go_simp
      refine (HIN.out _).mono ?_
      rintro ee w2 ⟨rfl, hb2⟩
      have hB2 : Below B w w2 := HB0.out.drew.trans (hb2.mono (Nat.le_of_lt (Nat.lt_of_le_of_lt hBb hb0)))
      have hk2 : w2.heap[b]? = w0.heap[b]? := hb2.block b hb0
      have hs2 : w0.heap.size ≤ w2.heap.size := hb2.size
      have ho2 := ownN_below (show w0.drew.ownsRow B 30 2 _ i _ from HOWN.out) hb2 (fun k hk => Nat.lt_trans (HOL.out k hk) hb0)
      refine hK.out _ _ ?_ (fun hHeld => ?_)
      · exact ⟨hB2, hk2, HK.out _ hk2⟩
      clear hK K
      (try simp only [Act.put, List.setIfInBounds_toArray, List.set_cons_zero, List.set_cons_succ])
      obtain ⟨v3, w3, hrun, ho3, hg3, _⟩ := app_pr w2 B _ i _ ho2 (prE y) (by omega) (by omega)
      have hk3 : w3.heap[b]? = w0.heap[b]? := (hg3.block b (by omega) (fun e => by have := HOL.out b e.symm; omega)).trans hk2
      have hB3 : Below B w w3 := hB2.grown hg3 (by omega) (fun k hk => (ho2.lt k hk).1)
      refine wpAnyH_take (i := 5) (v := ?_) (by simp only [List.getElem?_toArray, List.getElem?_cons_succ, List.getElem?_cons_zero]; rfl) (by kernel_rfl) (by kernel_rfl) (by kernel_rfl) (fun _ _ _ h => h) (Or.inl ⟨by rfl, ?_⟩) (by assumption) ?_
      rotate_left
      · (intro w hSw; (try dsimp only at hSw); go_simp; (try with_reducible rfl))
      (try simp only [Act.put, List.setIfInBounds_toArray, List.set_cons_zero, List.set_cons_succ])
      refine wpAnyH_ready (rs := [6]) (by kernel_rfl) (by simp) ?_
      refine AllReadyH.cons (by simp only [List.getElem?_toArray, List.getElem?_cons_succ, List.getElem?_cons_zero]; rfl) (fun K hK => ?_) AllReadyH.nil
      have hlit := lit_pr w2 (prE y) #[(0, .agg #[.string (strB (prE y).1), .string y.v])] (by rw [show prV (prE y) = .agg #[.string (strB (prE y).1), .string (strB (bl y.v))] from rfl, strB_bl])
      refine (if_pos rfl).mpr (wp_buildSlice_1 22 (.tmp 17) rfl rfl hlit ?_)
      have hk4 : (w2.alloc (.cells (prC2 [prE y]).toArray 30)).heap[b]? = w0.heap[b]? := (((Below.refl w2.heap.size w2).alloc (Nat.le_refl _) _).block b (by omega)).trans hk2
      refine hK.out _ _ ?_ (fun hHeld => ?_)
      · exact ⟨hB2.alloc (by omega) _, hk4, HK.out _ hk4⟩
      clear hK K
      (try simp only [Act.put, List.setIfInBounds_toArray, List.set_cons_zero, List.set_cons_succ])
      refine wpAnyH_ready (rs := [7]) (by kernel_rfl) (by simp) ?_
      refine AllReadyH.cons (by simp only [List.getElem?_toArray, List.getElem?_cons_succ, List.getElem?_cons_zero]; rfl) (fun K hK => ?_) AllReadyH.nil
      refine operwp_append_run rfl (.tmp 12) (.tmp 18) 22 rfl rfl rfl hrun ?_
      refine hK.out _ _ ?_ (fun hHeld => ?_)
      · exact ⟨hB3, hk3, HK.out _ hk3⟩
      clear hK K
      (try simp only [Act.put, List.setIfInBounds_toArray, List.set_cons_zero, List.set_cons_succ])
      refine wpAnyH_take (i := 8) (v := ?_) (by simp only [List.getElem?_toArray, List.getElem?_cons_succ, List.getElem?_cons_zero]; rfl) (by kernel_rfl) (by kernel_rfl) (by kernel_rfl) (fun _ _ _ h => h) (Or.inl ⟨by rfl, ?_⟩) (by assumption) ?_
      rotate_left
      · (intro w hSw; (try dsimp only at hSw); go_simp; (try with_reducible rfl))
      (try simp only [Act.put, List.setIfInBounds_toArray, List.set_cons_zero, List.set_cons_succ])
      refine wpAnyH_done (by kernel_rfl) ?_ _
      refine NoPanic.normal ?_
      have HO3 := Lib.hid ho3
      have HB3 := Lib.hid hB3
      clear hHeld ho3 ho2 hg3 hrun hb2 hB2 hB3 hk2 hk3 hk4
      go_wp2
      go_roundg (n - (i + 1))
      case measure => have := HX.out; omega
      case rel =>
        refine ⟨i + 1, by omega, by go_num, Nat.le_refl _, Lib.hid ?_, HB3⟩
        obtain ⟨hil, rfl⟩ := List.getElem?_eq_some_iff.1 HY.out
        rw [List.take_succ_eq_append_getElem hil, List.map_append]
        exact HO3.out
    · obtain rfl : i = n := by omega
      go_wp2
      go_ret
      refine ⟨_, rfl, ?_, HW.out⟩
      have := HO.out
      rwa [List.take_of_length_le (by have := HN.out; omega)] at this
end Go.Proofs.Ytalcdmpjpphopaa
