/- A Sorted of entries in memory: find, Seek, Len, At. -/
import Derived.Test.YtgdkcnpgnmmliabS2
namespace Go.Proofs.Ytgdkcnpgnmmliab
set_option linter.unusedSimpArgs false
set_option linter.unusedVariables false
open Go.RowKit

structure Sd (w : World) (base gs : Nat) (v : Value) (L : List En) : Prop where
  box : Bx2 w gs fCmp v
  own : OwnE w base v L
  lo : base ≤ gs
  ne : v.ownBlock ≠ some gs
  srt : Srt cmpE L
theorem Sd.keep {w w' : World} {base gs : Nat} {v : Value} {L : List En} (h : Sd w base gs v L) (k1 : w'.heap[gs]? = w.heap[gs]?) (k2 : ∀ k, v.ownBlock = some k → w'.heap[k]? = w.heap[k]?) : Sd w' base gs v L :=
  ⟨h.box.keep k1, ownN_keep h.own k2, h.lo, h.ne, h.srt⟩
theorem Sd.below {w w' : World} {base gs : Nat} {v : Value} {L : List En} (h : Sd w base gs v L) (hb : Below w.heap.size w w') : Sd w' base gs v L :=
  h.keep (hb.block gs h.box.lt) fun k hk => hb.block k (h.own.lt k hk).2

theorem equalFd (d : Nat) (w : World) : (Op.equalIn (d + 1) 59 fCmp .nilFunc).run Try.prog w = .ok false w := by
  simp [Op.equalIn, run_underlying Try.underlying59]
theorem equalF (w : World) : (Op.equal 59 fCmp .nilFunc).run Try.prog w = .ok false w := equalFd 9999 w
theorem neqF (w : World) : (binOp .neq 59 fCmp .nilFunc).run Try.prog w = .ok (.bool true) w := by
  simp only [binOp]
  simp [equalF]
theorem eqlF (w : World) : (binOp .eql 59 fCmp .nilFunc).run Try.prog w = .ok (.bool false) w := by
  simp only [binOp]
  simp [equalF]

set_option maxHeartbeats 400000 in
theorem ordered_any (gs : Nat) (v : Value) (w : World) (h : Bx2 w gs fCmp v) :
    Calls Try.prog 46 #[.pointer (some ⟨gs, 0, none⟩)] w fun e w' => e = .returned (.bool true) ∧ w = w' := by
  have h0 := h.c0
  have hF := neqF w
  clear h
  go_enter Try.func46, Try.ntmps46
  go_wp2
  go_ret
  exact ⟨rfl, rfl⟩

set_option maxHeartbeats 400000 in
theorem len_any (gs n c : Nat) (A : Option Addr) (u : Value) (w : World) (h : w.cell? ⟨gs, 1, none⟩ = some (.slice A n c)) :
    Calls Try.prog 38 #[.pointer (some ⟨gs, 0, none⟩)] w fun e w' => e = .returned (.int .i64 (n : Int)) ∧ w = w' := by
  go_enter Try.func38, Try.ntmps38
  go_wp2
  go_ret
  exact ⟨rfl, rfl⟩

set_option maxHeartbeats 1000000 in
theorem find_any (base gs : Nat) (v : Value) (L : List En) (x : En) (w : World) (h : Sd w base gs v L) (hn6 : (L.length : Int) ≤ 1000000) :
    Calls Try.prog 47 #[.pointer (some ⟨gs, 0, none⟩), x.val] w fun e w' =>
      e = .returned (.tuple #[.int .i64 (pos cmpE L x : Nat), .bool (hit cmpE L x)]) ∧ Below w.heap.size w w' := by
  obtain ⟨A, c, rfl, hnc, hcm, hr⟩ := own_rdN h.own
  have hgl := h.box.lt
  have HO := Lib.hid (fun W (hb : Below w.heap.size w W) => ordered_any gs _ W (h.box.keep (hb.block gs hgl)))
  have HBS := Lib.hid (fun W (hb : Below w.heap.size w W) => bs_any A c L x W ((hr.below hb).up hb.size) hn6 h.srt)
  have HC := Lib.hid (fun W (hb : Below w.heap.size w W) => And.intro (h.box.keep (hb.block gs hgl)).c0 (h.box.keep (hb.block gs hgl)).c1)
  generalize pos cmpE L x = p at *
  generalize hit cmpE L x = H at *
  generalize L.length = n at *
  clear h hr hn6
  go_enter Try.func47, Try.ntmps47
  go_upto_region 1 with fail
  generalize hw0 : w.alloc (.cells #[.string x.k, .int .u64 x.S, .bool x.d, .string x.v] 42) = w0
  have HB0 : Hid (Below w.heap.size w w0) := by rw [← hw0]; exact Lib.hid ((Below.refl _ _).alloc (Nat.le_refl _) _)
  have HX0 : Hid (Bx4 w0 w.heap.size (.string x.k) (.int .u64 x.S) (.bool x.d) (.string x.v)) := by rw [← hw0]; exact Lib.hid (Bx4.new w _ _ _ _ _)
  clear hw0
  generalize hb : w.heap.size = b at *
  have HBb := Lib.hid hb
  clear hb
  go_upto_region 3 with (go_at_call 46; refine (HO.out _ HB0.out).mono ?_; rintro e w' ⟨rfl, rfl⟩)
  have HC0 := HC.out w0 HB0.out
  have HX := HX0.out
  have hsz : b + 1 ≤ w0.heap.size := HX.lt
  have HS : Hid (∀ wx, Below w0.heap.size w0 wx → wx.cell? ⟨gs, 0, none⟩ = some fCmp ∧ wx.cell? ⟨gs, 1, none⟩ = some (.slice A n c) ∧ wx.cell? ⟨b, 0, none⟩ = some (.string x.k) ∧ wx.cell? ⟨b, 1, none⟩ = some (.int .u64 x.S) ∧ wx.cell? ⟨b, 2, none⟩ = some (.bool x.d) ∧ wx.cell? ⟨b, 3, none⟩ = some (.string x.v)) := Lib.hid fun wx h =>
    ⟨(h.cell (p := ⟨gs, 0, none⟩) (by show gs < _; omega)).trans HC0.1, (h.cell (p := ⟨gs, 1, none⟩) (by show gs < _; omega)).trans HC0.2, (h.cell (p := ⟨b, 0, none⟩) hsz).trans HX.c0, (h.cell (p := ⟨b, 1, none⟩) hsz).trans HX.c1, (h.cell (p := ⟨b, 2, none⟩) hsz).trans HX.c2, (h.cell (p := ⟨b, 3, none⟩) hsz).trans HX.c3⟩
  clear HC0 HX HX0
  refine wp_region_noPanic ?_
  refine wp_region_held_drew (S := (fun wx => Below w0.heap.size w0 wx ∧ wx.cell? ⟨gs, 0, none⟩ = some fCmp ∧ wx.cell? ⟨gs, 1, none⟩ = some (.slice A n c) ∧ wx.cell? ⟨b, 0, none⟩ = some (.string x.k) ∧ wx.cell? ⟨b, 1, none⟩ = some (.int .u64 x.S) ∧ wx.cell? ⟨b, 2, none⟩ = some (.bool x.d) ∧ wx.cell? ⟨b, 3, none⟩ = some (.string x.v))) (by kernel_rfl) (⟨(Below.refl _ _).drew, HS.out _ (Below.refl _ _).drew⟩) (fun hHeld => ?_)
  refine wpAnyH_take (i := 0) (v := ?_) (by simp only [List.getElem?_toArray, List.getElem?_cons_succ, List.getElem?_cons_zero]; rfl) (by kernel_rfl) (by kernel_rfl) (by kernel_rfl) (fun _ _ _ h => h) (Or.inl ⟨by rfl, ?_⟩) (by assumption) ?_
  rotate_left
  · (intro w hSw; (try dsimp only at hSw); go_simp; (try with_reducible rfl))
  (try simp only [Act.put, List.setIfInBounds_toArray, List.set_cons_zero, List.set_cons_succ])
  refine wpAnyH_take (i := 1) (v := ?_) (by simp only [List.getElem?_toArray, List.getElem?_cons_succ, List.getElem?_cons_zero]; rfl) (by kernel_rfl) (by kernel_rfl) (by kernel_rfl) (fun _ _ _ h => h) (Or.inl ⟨by rfl, ?_⟩) (by assumption) ?_
  rotate_left
  · (intro w hSw; (try dsimp only at hSw); go_simp; (try with_reducible rfl))
  (try simp only [Act.put, List.setIfInBounds_toArray, List.set_cons_zero, List.set_cons_succ])
  refine wpAnyH_take (i := 2) (v := ?_) (by simp only [List.getElem?_toArray, List.getElem?_cons_succ, List.getElem?_cons_zero]; rfl) (by kernel_rfl) (by kernel_rfl) (by kernel_rfl) (fun _ _ _ h => h) (Or.inl ⟨by rfl, ?_⟩) (by assumption) ?_
  rotate_left
  · (intro w hSw; (try dsimp only at hSw); go_simp; (try with_reducible rfl))
  (try simp only [Act.put, List.setIfInBounds_toArray, List.set_cons_zero, List.set_cons_succ])
  refine wpAnyH_take (i := 3) (v := ?_) (by simp only [List.getElem?_toArray, List.getElem?_cons_succ, List.getElem?_cons_zero]; rfl) (by kernel_rfl) (by kernel_rfl) (by kernel_rfl) (fun _ _ _ h => h) (Or.inl ⟨by rfl, ?_⟩) (by assumption) ?_
  rotate_left
  · (intro w hSw; (try dsimp only at hSw); go_simp; (try with_reducible rfl))
  (try simp only [Act.put, List.setIfInBounds_toArray, List.set_cons_zero, List.set_cons_succ])
  refine wpAnyH_take (i := 4) (v := ?_) (by simp only [List.getElem?_toArray, List.getElem?_cons_succ, List.getElem?_cons_zero]; rfl) (by kernel_rfl) (by kernel_rfl) (by kernel_rfl) (fun _ _ _ h => h) (Or.inl ⟨by rfl, ?_⟩) (by assumption) ?_
  rotate_left
  · (intro w hSw; (try dsimp only at hSw); go_simp; (try with_reducible rfl))
  (try simp only [Act.put, List.setIfInBounds_toArray, List.set_cons_zero, List.set_cons_succ])
  refine wpAnyH_take (i := 5) (v := ?_) (by simp only [List.getElem?_toArray, List.getElem?_cons_succ, List.getElem?_cons_zero]; rfl) (by kernel_rfl) (by kernel_rfl) (by kernel_rfl) (fun _ _ _ h => h) (Or.inl ⟨by rfl, ?_⟩) (by assumption) ?_
  rotate_left
  · (intro w hSw; (try dsimp only at hSw); go_simp; (try with_reducible rfl))
  (try simp only [Act.put, List.setIfInBounds_toArray, List.set_cons_zero, List.set_cons_succ])
  refine wpAnyH_take (i := 6) (v := ?_) (by simp only [List.getElem?_toArray, List.getElem?_cons_succ, List.getElem?_cons_zero]; rfl) (by kernel_rfl) (by kernel_rfl) (by kernel_rfl) (fun _ _ _ h => h) (Or.inl ⟨by rfl, ?_⟩) (by assumption) ?_
  rotate_left
  · (intro w hSw; (try dsimp only at hSw); go_simp; (try with_reducible rfl))
  (try simp only [Act.put, List.setIfInBounds_toArray, List.set_cons_zero, List.set_cons_succ])
  refine wpAnyH_take (i := 7) (v := ?_) (by simp only [List.getElem?_toArray, List.getElem?_cons_succ, List.getElem?_cons_zero]; rfl) (by kernel_rfl) (by kernel_rfl) (by kernel_rfl) (fun _ _ _ h => h) (Or.inl ⟨by rfl, ?_⟩) (by assumption) ?_
  rotate_left
  · (intro w hSw; (try dsimp only at hSw); go_simp; (try with_reducible rfl))
  (try simp only [Act.put, List.setIfInBounds_toArray, List.set_cons_zero, List.set_cons_succ])
  refine wpAnyH_take (i := 8) (v := ?_) (by simp only [List.getElem?_toArray, List.getElem?_cons_succ, List.getElem?_cons_zero]; rfl) (by kernel_rfl) (by kernel_rfl) (by kernel_rfl) (fun _ _ _ h => h) (Or.inl ⟨by rfl, ?_⟩) (by assumption) ?_
  rotate_left
  · (intro w hSw; (try dsimp only at hSw); go_simp; (try with_reducible rfl))
  (try simp only [Act.put, List.setIfInBounds_toArray, List.set_cons_zero, List.set_cons_succ])
  refine wpAnyH_ready (rs := [9]) (by kernel_rfl) (by simp) ?_
  refine AllReadyH.cons (by simp only [List.getElem?_toArray, List.getElem?_cons_succ, List.getElem?_cons_zero]; rfl) (fun K hK => ?_) AllReadyH.nil
  go_simp
  refine (HBS.out _ (HB0.out.trans (hHeld.1.mono (by omega)))).mono ?_
  rintro ee w' ⟨rfl, hb'⟩
  have hB2 := hHeld.1.trans (hb'.mono hHeld.1.size)
  refine hK.out _ _ ?_ (fun hHeld => ?_)
  · exact ⟨hB2, HS.out _ hB2⟩
  clear hK K
  (try simp only [Act.put, List.setIfInBounds_toArray, List.set_cons_zero, List.set_cons_succ])
  refine wpAnyH_take (i := 10) (v := ?_) (by simp only [List.getElem?_toArray, List.getElem?_cons_succ, List.getElem?_cons_zero]; rfl) (by kernel_rfl) (by kernel_rfl) (by kernel_rfl) (fun _ _ _ h => h) (Or.inl ⟨by rfl, ?_⟩) (by assumption) ?_
  rotate_left
  · (intro w hSw; (try dsimp only at hSw); go_simp; (try with_reducible rfl))
  (try simp only [Act.put, List.setIfInBounds_toArray, List.set_cons_zero, List.set_cons_succ])
  refine wpAnyH_take (i := 11) (v := ?_) (by simp only [List.getElem?_toArray, List.getElem?_cons_succ, List.getElem?_cons_zero]; rfl) (by kernel_rfl) (by kernel_rfl) (by kernel_rfl) (fun _ _ _ h => h) (Or.inl ⟨by rfl, ?_⟩) (by assumption) ?_
  rotate_left
  · (intro w hSw; (try dsimp only at hSw); go_simp; (try with_reducible rfl))
  (try simp only [Act.put, List.setIfInBounds_toArray, List.set_cons_zero, List.set_cons_succ])
  refine wpAnyH_take (i := 12) (v := ?_) (by simp only [List.getElem?_toArray, List.getElem?_cons_succ, List.getElem?_cons_zero]; rfl) (by kernel_rfl) (by kernel_rfl) (by kernel_rfl) (fun _ _ _ h => h) (Or.inl ⟨by rfl, ?_⟩) (by assumption) ?_
  rotate_left
  · (intro w hSw; (try dsimp only at hSw); go_simp; (try with_reducible rfl))
  (try simp only [Act.put, List.setIfInBounds_toArray, List.set_cons_zero, List.set_cons_succ])
  refine wpAnyH_take (i := 13) (v := ?_) (by simp only [List.getElem?_toArray, List.getElem?_cons_succ, List.getElem?_cons_zero]; rfl) (by kernel_rfl) (by kernel_rfl) (by kernel_rfl) (fun _ _ _ h => h) (Or.inl ⟨by rfl, ?_⟩) (by assumption) ?_
  rotate_left
  · (intro w hSw; (try dsimp only at hSw); go_simp; (try with_reducible rfl))
  (try simp only [Act.put, List.setIfInBounds_toArray, List.set_cons_zero, List.set_cons_succ])
  refine wpAnyH_done (by kernel_rfl) ?_ _
  refine NoPanic.normal ?_
  have HB9 := Lib.hid (HB0.out.trans (hB2.mono (by omega)))
  clear hB2 hb' hHeld
  go_wp2
  go_ret2
  exact ⟨rfl, by rw [HBb.out]; exact HB9.out⟩

set_option maxHeartbeats 1000000 in
theorem seek_any (base gs : Nat) (v : Value) (L : List En) (x : En) (w : World) (h : Sd w base gs v L) (hn6 : (L.length : Int) ≤ 1000000) :
    Calls Try.prog 40 #[.pointer (some ⟨gs, 0, none⟩), x.val] w fun e w' =>
      e = .returned (.int .i64 (pos cmpE L x : Nat)) ∧ Below w.heap.size w w' := by
  have HF := Lib.hid (fun W (hb : Below w.heap.size w W) => find_any base gs v L x W (h.below hb) hn6)
  generalize pos cmpE L x = p at *
  generalize hit cmpE L x = H at *
  clear h
  go_enter Try.func40, Try.ntmps40
  go_wp2_with (go_at_call 47; refine (HF.out _ ((Below.refl _ _).alloc (Nat.le_refl _) _)).mono ?_; rintro e w' ⟨rfl, hb⟩)
  go_ret
  exact ⟨rfl, ((Below.refl _ _).alloc (Nat.le_refl _) _).trans (hb.mono (by simp))⟩
end Go.Proofs.Ytgdkcnpgnmmliab
