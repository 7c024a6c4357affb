/- A Table in memory: Add. -/
import Derived.Test.YtgdkcnpgnmmliabS8
namespace Go.Proofs.Ytgdkcnpgnmmliab
set_option linter.unusedSimpArgs false
set_option linter.unusedVariables false
open Go.RowKit

def chkE (x : En) : Int := chk x.k.size x.S x.d x.v.size
/-- What Add tells, and what is there behind it. -/
def addR (L : List En) (x : En) : Int := if chkE x = 0 then (if hit cmpE L x = true then 5 else 0) else chkE x
def addL (L : List En) (x : En) : List En := if addR L x = 0 then ins cmpE L x else L
theorem chkE_0 (x : En) (h : chkE x = 0) : x.k.size ≤ 128 ∧ x.v.size ≤ 65536 ∧ 0 < x.k.size := by
  unfold chkE chk at h
  split at h
  · cases h
  · split at h
    · cases h
    · rename_i a b
      simp only [not_or] at a b
      omega
theorem hit_at (L : List En) (x : En) : hit cmpE L x = ((atE L (pos cmpE L x : Nat)).2 && decide (cmpE x (atE L (pos cmpE L x : Nat)).1 = 0)) := by
  unfold hit atE
  rw [if_neg (by omega), Int.toNat_natCast]
  cases L[pos cmpE L x]? with
  | none => rfl
  | some y =>
    simp only [Bool.true_and, decide_eq_decide]
    exact ⟨fun h => ordE.zero _ _ h, fun h => ordE.zero _ _ h⟩
theorem szE_ins (L : List En) (x : En) : szE (ins cmpE L x) = szE L + (x.k.size + x.v.size + 16) := by
  have := (ins_perm (c := cmpE) L x).map (fun x => x.k.size + x.v.size + 16)
  have h := this.sum_nat
  unfold szE
  rw [h]
  simp
  omega
def AddPost (w : World) (base gt gs : Nat) (v : Value) (L : List En) (x : En) (e : Ending) (w' : World) : Prop :=
  ∃ v', e = .returned (.int .i64 (addR L x)) ∧ Tb w' base gt gs v' (addL L x) ∧ Tch w w' (gt :: gs :: v.ownBlock.toList) ∧ (v'.ownBlock = v.ownBlock ∨ ∀ k, v'.ownBlock = some k → w.heap.size ≤ k)
theorem AddPost.same {w w' : World} {base gt gs : Nat} {v : Value} {L : List En} {x : En} (r : Int) (hr : addR L x = r) (h0 : r ≠ 0) (h : Tb w base gt gs v L) (hb : Below w.heap.size w w') : AddPost w base gt gs v L x (.returned (.int .i64 r)) w' :=
  ⟨v, by rw [hr], by unfold addL; rw [hr, if_neg h0]; exact h.below hb, Tch.of_below _ hb, .inl rfl⟩

set_option maxHeartbeats 2000000 in
set_option maxRecDepth 100000 in
theorem add_any (base gt gs : Nat) (v : Value) (L : List En) (x : En) (w : World) (h : Tb w base gt gs v L) (hbase : base ≤ w.heap.size) (hn6 : (L.length : Int) ≤ 1000000) (hsz : (szE L : Int) ≤ 1000000000000) (hk : x.k.size ≤ maxLen) (hv : x.v.size ≤ maxLen) :
    Calls Try.prog 20 #[.pointer (some ⟨gt, 0, none⟩), x.val] w (AddPost w base gt gs v L x) := by
  have HC := Lib.hid (fun W => check_any x.k x.S x.d x.v hk hv W)
  have HF := Lib.hid (fun W (hb : Below w.heap.size w W) => from_any base gt gs v L x W (h.below hb) hn6)
  have HA := Lib.hid (fun W (hb : Below w.heap.size w W) => tat_any base gt gs (pos cmpE L x : Nat) v L W (h.below hb) hn6)
  have HSAME := Lib.hid (fun W r (hr : addR L x = r) (h0 : r ≠ 0) (hb : Below w.heap.size w W) => AddPost.same r hr h0 h hb)
  have b0 := h.box.c0
  have hgt := h.box.lt
  have hCH : chk x.k.size x.S x.d x.v.size = chkE x := rfl
  rw [hCH] at HC
  clear hCH
  have HT := Lib.hid h
  clear h
  have hh := hit_at L x
  generalize hr : atE L (pos cmpE L x : Nat) = r at *
  obtain ⟨y, ok⟩ := r
  have HY := Lib.hid (fun W => cmp_en x y W)
  generalize hz : cmpE x y = z at *
  have HH := Lib.hid hh
  clear hr hz hh
  have HEND : Hid (∀ w5 w6 v', Below w.heap.size w w5 → hit cmpE L x = false → Sd w6 base gs v' (ins cmpE L x) → Tch w5.drew w6 (gs :: v.ownBlock.toList) → (v'.ownBlock = v.ownBlock ∨ ∀ k, v'.ownBlock = some k → w5.drew.heap.size ≤ k) →
      chkE x = 0 → ∀ q : Int, q = (szE L : Int) + (x.k.size + x.v.size + 16) → AddPost w base gt gs v L x (.returned (.int .i64 0)) (w6.drew.setCell ⟨gt, 1, none⟩ (.int .i64 q))) := Lib.hid fun w5 w6 v' hb hh S6 T6 o6 hc q hq => by
    have hR : addR L x = 0 := by unfold addR; rw [if_pos hc, hh]; rfl
    have hL : addL L x = ins cmpE L x := by unfold addL; rw [if_pos hR]
    have T5 := HT.out.below hb
    have hgt5 : gt < w5.drew.heap.size := T5.box.lt
    have hs5 : w.heap.size ≤ w5.drew.heap.size := hb.size
    have B6 : Bx2 w6 gt (.pointer (some ⟨gs, 0, none⟩)) (.int .i64 (szE L : Nat)) := T5.box.keep (T6.block gt hgt5 (by
      simp only [List.mem_cons, Option.mem_toList, not_or]
      exact ⟨T5.n1, T5.n2⟩))
    have gr := grown_setCell w6.drew ⟨gt, 1, none⟩ (.int .i64 q)
    have hne : v'.ownBlock ≠ some gt := by
      rcases o6 with e | e
      · rw [e]; exact T5.n2
      · intro hk; have := e gt hk; omega
    refine ⟨v', by rw [hR], ?_, ?_, ?_⟩
    · rw [hL]
      refine ⟨?_, S6.keep (gr.block gs S6.box.lt (fun e => T5.n1 (by injection e with e; exact e.symm))) (fun k hk => gr.block k (S6.own.lt k hk).2 (fun e => hne (by rw [hk]; exact e))), T5.lo, T5.n1, hne⟩
      have := Bx2.set1 (w := w6.drew) ⟨B6.c0, B6.c1, B6.cold⟩ (.int .i64 q)
      rw [hq] at this ⊢
      rw [szE_ins]
      push_cast at this ⊢
      exact this
    · refine ⟨?_, ?_, ?_, ?_, fun k hk hL => ?_⟩
      · exact (gr.os.trans T6.os).trans hb.os
      · exact (gr.tape.trans T6.tape).trans hb.tape
      · exact (gr.output.trans T6.output).trans hb.output
      · exact Nat.le_trans hs5 (Nat.le_trans T6.size gr.size)
      · simp only [List.mem_cons, Option.mem_toList, not_or] at hL
        have h5 : k < w5.drew.heap.size := by omega
        refine (gr.block k (Nat.lt_of_lt_of_le h5 T6.size) (fun e => hL.1 (by injection e))).trans ((T6.block k h5 (by simp only [List.mem_cons, Option.mem_toList, not_or]; exact hL.2)).trans (hb.block k hk))
    · rcases o6 with e | e
      · exact .inl e
      · exact .inr fun k hk => by have := e k hk; omega
  obtain ⟨c, hc⟩ : ∃ c, c = chkE x := ⟨_, rfl⟩
  rw [← hc] at HC
  have HCC := Lib.hid hc
  clear hc
  go_enter Try.func20, Try.ntmps20
  go_upto_region 1 with fail
  generalize hw0 : w.alloc (.cells #[.string x.k, .int .u64 x.S, .bool x.d, .string x.v] 42) = w0
  have HB0 : Hid (Below w.heap.size w w0) := by rw [← hw0]; exact Lib.hid ((Below.refl _ _).alloc (Nat.le_refl _) _)
  have HX0 : Hid (Bx4 w0 w.heap.size (.string x.k) (.int .u64 x.S) (.bool x.d) (.string x.v)) := by rw [← hw0]; exact Lib.hid (Bx4.new w _ _ _ _ _)
  clear hw0
  have d0 := (HB0.out.cell (p := ⟨gt, 0, none⟩) hgt).trans b0
  have x0 := HX0.out.c0
  have x1 := HX0.out.c1
  have x2 := HX0.out.c2
  have x3 := HX0.out.c3
  go_upto_region 4 with (go_at_call 18; refine (HC.out _).mono ?_; rintro e w1 ⟨rfl, hb1⟩)
  have HB1 := Lib.hid (HB0.out.trans (hb1.mono (Nat.le_of_lt HX0.out.lt)))
  have HX1 := Lib.hid (HX0.out.keep (hb1.block _ HX0.out.lt))
  clear hb1 d0 x0 x1 x2 x3 b0
  by_cases hc0 : c = 0
  · subst hc0
    go_upto_region 6 with fail
    have x0 := HX1.out.c0
    have x1 := HX1.out.c1
    have x2 := HX1.out.c2
    have x3 := HX1.out.c3
    go_upto_region 7 with (first
      | (go_at_call 25; refine (HF.out _ HB1.out).mono ?_; rintro e w2 ⟨rfl, hb2⟩
         have HB2 := Lib.hid (HB1.out.trans (hb2.mono (Nat.le_of_lt HX1.out.lt)))
         have HX2 := Lib.hid (HX1.out.keep (hb2.block _ HX1.out.lt))
         clear hb2)
      | (go_at_call 24; refine (HA.out _ HB2.out).mono ?_; rintro e w3 ⟨rfl, hb3⟩
         have HB3 := Lib.hid (HB2.out.trans (hb3.mono (Nat.le_of_lt HX2.out.lt)))
         have HX3 := Lib.hid (HX2.out.keep (hb3.block _ HX2.out.lt))
         clear hb3))
    generalize hw4 : w3.alloc (.cells #[.string y.k, .int .u64 y.S, .bool y.d, .string y.v] 42) = w4
    have b4 : Below w3.heap.size w3 w4 := by rw [← hw4]; exact (Below.refl _ _).alloc (Nat.le_refl _) _
    have Y4 : Bx4 w4 w3.heap.size (.string y.k) (.int .u64 y.S) (.bool y.d) (.string y.v) := by rw [← hw4]; exact Bx4.new w3 _ _ _ _ _
    have HB4 := Lib.hid (HB3.out.trans (b4.mono (Nat.le_of_lt HX3.out.lt)))
    have HX4 := Lib.hid (HX3.out.keep (b4.block _ HX3.out.lt))
    have HPUT := Lib.hid (fun W (hb : Below w.heap.size w W) (hh : hit cmpE L x = false) => put_new base gs v L x W (HT.out.below hb).sd (Nat.le_trans hbase hb.size) hn6 hh)
    have x0 := HX4.out.c0
    have x1 := HX4.out.c1
    have x2 := HX4.out.c2
    have x3 := HX4.out.c3
    have y0 := Y4.c0
    have y1 := Y4.c1
    have y2 := Y4.c2
    have y3 := Y4.c3
    clear hw4 b4 Y4
    have hcase : (ok = false) ∨ (ok = true ∧ z ≠ 0) ∨ (ok = true ∧ z = 0) := by
      cases ok
      · exact .inl rfl
      · by_cases hz : z = 0
        · exact .inr (.inr ⟨rfl, hz⟩)
        · exact .inr (.inl ⟨rfl, hz⟩)
    rcases hcase with hok | ⟨hok, hz⟩ | ⟨hok, hz⟩
    · subst hok
      clear y0 y1 y2 y3
      go_upto_region 9 with fail
      clear x0 x1 x2 x3
      have HHIT : Hid (hit cmpE L x = false) := Lib.hid (by rw [HH.out]; rfl)
      have T5 := HT.out.below HB4.out
      have G0 := T5.box.c0
      have HK5 : Hid (w4.cell? ⟨gt, 0, none⟩ = some (.pointer (some ⟨gs, 0, none⟩)) ∧ w4.cell? ⟨w.heap.size, 0, none⟩ = some (.string x.k) ∧ w4.cell? ⟨w.heap.size, 1, none⟩ = some (.int .u64 x.S) ∧ w4.cell? ⟨w.heap.size, 2, none⟩ = some (.bool x.d) ∧ w4.cell? ⟨w.heap.size, 3, none⟩ = some (.string x.v)) := Lib.hid ⟨G0, HX4.out.c0, HX4.out.c1, HX4.out.c2, HX4.out.c3⟩
      have HT5 := Lib.hid T5
      clear T5 G0
      refine wp_region_noPanic ?_
      refine wp_region_held_drew (S := (fun wx => wx.cell? ⟨gt, 0, none⟩ = some (.pointer (some ⟨gs, 0, none⟩)) ∧ wx.cell? ⟨w.heap.size, 0, none⟩ = some (.string x.k) ∧ wx.cell? ⟨w.heap.size, 1, none⟩ = some (.int .u64 x.S) ∧ wx.cell? ⟨w.heap.size, 2, none⟩ = some (.bool x.d) ∧ wx.cell? ⟨w.heap.size, 3, none⟩ = some (.string x.v))) (by kernel_rfl) (HK5.out) (fun hHeld => ?_)
      refine wpAnyH_take (i := 0) (v := ?_) (by simp only [List.getElem?_toArray, List.getElem?_cons_succ, List.getElem?_cons_zero]; rfl) (by kernel_rfl) (by kernel_rfl) (by kernel_rfl) (fun _ _ _ h => h) (Or.inl ⟨by rfl, ?_⟩) (by assumption) ?_
      rotate_left
      · (intro w hSw; (try dsimp only at hSw); go_simp; (try with_reducible rfl))
      (try simp only [Act.put, List.setIfInBounds_toArray, List.set_cons_zero, List.set_cons_succ])
      refine wpAnyH_take (i := 1) (v := ?_) (by simp only [List.getElem?_toArray, List.getElem?_cons_succ, List.getElem?_cons_zero]; rfl) (by kernel_rfl) (by kernel_rfl) (by kernel_rfl) (fun _ _ _ h => h) (Or.inl ⟨by rfl, ?_⟩) (by assumption) ?_
      rotate_left
      · (intro w hSw; (try dsimp only at hSw); go_simp; (try with_reducible rfl))
      (try simp only [Act.put, List.setIfInBounds_toArray, List.set_cons_zero, List.set_cons_succ])
      refine wpAnyH_take (i := 2) (v := ?_) (by simp only [List.getElem?_toArray, List.getElem?_cons_succ, List.getElem?_cons_zero]; rfl) (by kernel_rfl) (by kernel_rfl) (by kernel_rfl) (fun _ _ _ h => h) (Or.inl ⟨by rfl, ?_⟩) (by assumption) ?_
      rotate_left
      · (intro w hSw; (try dsimp only at hSw); go_simp; (try with_reducible rfl))
      (try simp only [Act.put, List.setIfInBounds_toArray, List.set_cons_zero, List.set_cons_succ])
      refine wpAnyH_take (i := 3) (v := ?_) (by simp only [List.getElem?_toArray, List.getElem?_cons_succ, List.getElem?_cons_zero]; rfl) (by kernel_rfl) (by kernel_rfl) (by kernel_rfl) (fun _ _ _ h => h) (Or.inl ⟨by rfl, ?_⟩) (by assumption) ?_
      rotate_left
      · (intro w hSw; (try dsimp only at hSw); go_simp; (try with_reducible rfl))
      (try simp only [Act.put, List.setIfInBounds_toArray, List.set_cons_zero, List.set_cons_succ])
      refine wpAnyH_take (i := 4) (v := ?_) (by simp only [List.getElem?_toArray, List.getElem?_cons_succ, List.getElem?_cons_zero]; rfl) (by kernel_rfl) (by kernel_rfl) (by kernel_rfl) (fun _ _ _ h => h) (Or.inl ⟨by rfl, ?_⟩) (by assumption) ?_
      rotate_left
      · (intro w hSw; (try dsimp only at hSw); go_simp; (try with_reducible rfl))
      (try simp only [Act.put, List.setIfInBounds_toArray, List.set_cons_zero, List.set_cons_succ])
      refine wpAnyH_ready (rs := [5]) (by kernel_rfl) (by simp) ?_
      refine AllReadyH.cons (by simp only [List.getElem?_toArray, List.getElem?_cons_succ, List.getElem?_cons_zero]; rfl) (fun K hK => ?_) AllReadyH.nil
      go_simp
      refine (HPUT.out _ (HB4.out.drew) HHIT.out).mono ?_
      rintro ee w6 ⟨v', rfl, S6, T6, o6⟩
      have gs5 := HT5.out.sd.box.lt
      have gt5 := HT5.out.box.lt
      have gtn : gt ∉ gs :: v.ownBlock.toList := by
        simp only [List.mem_cons, Option.mem_toList, not_or]
        exact ⟨HT5.out.n1, HT5.out.n2⟩
      have bn : w.heap.size ∉ gs :: v.ownBlock.toList := by
        simp only [List.mem_cons, Option.mem_toList, not_or]
        exact ⟨fun e => by have := HT.out.sd.box.lt; omega, fun e => by have := (HT.out.sd.own.lt _ e).2; omega⟩
      have B6 := HT5.out.box.keep (T6.block gt gt5 gtn)
      have X6 := HX4.out.keep (T6.block _ HX4.out.lt bn)
      refine hK.out _ _ ?_ (fun hHeld => ?_)
      · exact ⟨B6.c0, X6.c0, X6.c1, X6.c2, X6.c3⟩
      clear hK K
      (try simp only [Act.put, List.setIfInBounds_toArray, List.set_cons_zero, List.set_cons_succ])
      refine wpAnyH_done (by kernel_rfl) ?_ _
      refine NoPanic.normal ?_
      have HS6 := Lib.hid S6
      have HT6 := Lib.hid T6
      have HO6 := Lib.hid o6
      have HB6 := Lib.hid B6
      have g1 := B6.c1
      have f1 := B6.cold 1
      have k0 := X6.c0
      have k3 := X6.c3
      clear S6 T6 o6 B6 X6 gtn bn hHeld
      go_upto_region 10 with fail
      have hq := chkE_0 x HCC.out.symm
      have hk1 : (x.k.size : Int) ≤ 128 := by omega
      have hk2 : (x.v.size : Int) ≤ 65536 := by omega
      clear hq
      go_still_tail 15, (by kernel_rfl)
      go_wp2
      go_ret
      exact HEND.out w4 w6 v' HB4.out HHIT.out HS6.out HT6.out HO6.out HCC.out.symm _ rfl
    · subst hok
      go_upto_region 9 with (go_at_call 19; refine (HY.out _).mono ?_; rintro e w5 ⟨rfl, hb5⟩)
      have HB5 := Lib.hid (HB4.out.trans (hb5.mono (Nat.le_of_lt HX4.out.lt)))
      have HX5 := Lib.hid (HX4.out.keep (hb5.block _ HX4.out.lt))
      clear hb5 x0 x1 x2 x3 y0 y1 y2 y3
      have HHIT : Hid (hit cmpE L x = false) := Lib.hid (by rw [HH.out]; simp [hz])
      have T5 := HT.out.below HB5.out
      have G0 := T5.box.c0
      have HK5 : Hid (w5.cell? ⟨gt, 0, none⟩ = some (.pointer (some ⟨gs, 0, none⟩)) ∧ w5.cell? ⟨w.heap.size, 0, none⟩ = some (.string x.k) ∧ w5.cell? ⟨w.heap.size, 1, none⟩ = some (.int .u64 x.S) ∧ w5.cell? ⟨w.heap.size, 2, none⟩ = some (.bool x.d) ∧ w5.cell? ⟨w.heap.size, 3, none⟩ = some (.string x.v)) := Lib.hid ⟨G0, HX5.out.c0, HX5.out.c1, HX5.out.c2, HX5.out.c3⟩
      have HT5 := Lib.hid T5
      clear T5 G0
      refine wp_region_noPanic ?_
      refine wp_region_held_drew (S := (fun wx => wx.cell? ⟨gt, 0, none⟩ = some (.pointer (some ⟨gs, 0, none⟩)) ∧ wx.cell? ⟨w.heap.size, 0, none⟩ = some (.string x.k) ∧ wx.cell? ⟨w.heap.size, 1, none⟩ = some (.int .u64 x.S) ∧ wx.cell? ⟨w.heap.size, 2, none⟩ = some (.bool x.d) ∧ wx.cell? ⟨w.heap.size, 3, none⟩ = some (.string x.v))) (by kernel_rfl) (HK5.out) (fun hHeld => ?_)
      refine wpAnyH_take (i := 0) (v := ?_) (by simp only [List.getElem?_toArray, List.getElem?_cons_succ, List.getElem?_cons_zero]; rfl) (by kernel_rfl) (by kernel_rfl) (by kernel_rfl) (fun _ _ _ h => h) (Or.inl ⟨by rfl, ?_⟩) (by assumption) ?_
      rotate_left
      · (intro w hSw; (try dsimp only at hSw); go_simp; (try with_reducible rfl))
      (try simp only [Act.put, List.setIfInBounds_toArray, List.set_cons_zero, List.set_cons_succ])
      refine wpAnyH_take (i := 1) (v := ?_) (by simp only [List.getElem?_toArray, List.getElem?_cons_succ, List.getElem?_cons_zero]; rfl) (by kernel_rfl) (by kernel_rfl) (by kernel_rfl) (fun _ _ _ h => h) (Or.inl ⟨by rfl, ?_⟩) (by assumption) ?_
      rotate_left
      · (intro w hSw; (try dsimp only at hSw); go_simp; (try with_reducible rfl))
      (try simp only [Act.put, List.setIfInBounds_toArray, List.set_cons_zero, List.set_cons_succ])
      refine wpAnyH_take (i := 2) (v := ?_) (by simp only [List.getElem?_toArray, List.getElem?_cons_succ, List.getElem?_cons_zero]; rfl) (by kernel_rfl) (by kernel_rfl) (by kernel_rfl) (fun _ _ _ h => h) (Or.inl ⟨by rfl, ?_⟩) (by assumption) ?_
      rotate_left
      · (intro w hSw; (try dsimp only at hSw); go_simp; (try with_reducible rfl))
      (try simp only [Act.put, List.setIfInBounds_toArray, List.set_cons_zero, List.set_cons_succ])
      refine wpAnyH_take (i := 3) (v := ?_) (by simp only [List.getElem?_toArray, List.getElem?_cons_succ, List.getElem?_cons_zero]; rfl) (by kernel_rfl) (by kernel_rfl) (by kernel_rfl) (fun _ _ _ h => h) (Or.inl ⟨by rfl, ?_⟩) (by assumption) ?_
      rotate_left
      · (intro w hSw; (try dsimp only at hSw); go_simp; (try with_reducible rfl))
      (try simp only [Act.put, List.setIfInBounds_toArray, List.set_cons_zero, List.set_cons_succ])
      refine wpAnyH_take (i := 4) (v := ?_) (by simp only [List.getElem?_toArray, List.getElem?_cons_succ, List.getElem?_cons_zero]; rfl) (by kernel_rfl) (by kernel_rfl) (by kernel_rfl) (fun _ _ _ h => h) (Or.inl ⟨by rfl, ?_⟩) (by assumption) ?_
      rotate_left
      · (intro w hSw; (try dsimp only at hSw); go_simp; (try with_reducible rfl))
      (try simp only [Act.put, List.setIfInBounds_toArray, List.set_cons_zero, List.set_cons_succ])
      refine wpAnyH_ready (rs := [5]) (by kernel_rfl) (by simp) ?_
      refine AllReadyH.cons (by simp only [List.getElem?_toArray, List.getElem?_cons_succ, List.getElem?_cons_zero]; rfl) (fun K hK => ?_) AllReadyH.nil
      go_simp
      refine (HPUT.out _ (HB5.out.drew) HHIT.out).mono ?_
      rintro ee w6 ⟨v', rfl, S6, T6, o6⟩
      have gs5 := HT5.out.sd.box.lt
      have gt5 := HT5.out.box.lt
      have gtn : gt ∉ gs :: v.ownBlock.toList := by
        simp only [List.mem_cons, Option.mem_toList, not_or]
        exact ⟨HT5.out.n1, HT5.out.n2⟩
      have bn : w.heap.size ∉ gs :: v.ownBlock.toList := by
        simp only [List.mem_cons, Option.mem_toList, not_or]
        exact ⟨fun e => by have := HT.out.sd.box.lt; omega, fun e => by have := (HT.out.sd.own.lt _ e).2; omega⟩
      have B6 := HT5.out.box.keep (T6.block gt gt5 gtn)
      have X6 := HX5.out.keep (T6.block _ HX5.out.lt bn)
      refine hK.out _ _ ?_ (fun hHeld => ?_)
      · exact ⟨B6.c0, X6.c0, X6.c1, X6.c2, X6.c3⟩
      clear hK K
      (try simp only [Act.put, List.setIfInBounds_toArray, List.set_cons_zero, List.set_cons_succ])
      refine wpAnyH_done (by kernel_rfl) ?_ _
      refine NoPanic.normal ?_
      have HS6 := Lib.hid S6
      have HT6 := Lib.hid T6
      have HO6 := Lib.hid o6
      have HB6 := Lib.hid B6
      have g1 := B6.c1
      have f1 := B6.cold 1
      have k0 := X6.c0
      have k3 := X6.c3
      clear S6 T6 o6 B6 X6 gtn bn hHeld
      go_upto_region 10 with fail
      have hq := chkE_0 x HCC.out.symm
      have hk1 : (x.k.size : Int) ≤ 128 := by omega
      have hk2 : (x.v.size : Int) ≤ 65536 := by omega
      clear hq
      go_still_tail 15, (by kernel_rfl)
      go_wp2
      go_ret
      exact HEND.out w5 w6 v' HB5.out HHIT.out HS6.out HT6.out HO6.out HCC.out.symm _ rfl
    · subst hok
      subst hz
      go_wp2_with (go_at_call 19; refine (HY.out _).mono ?_; rintro e w5 ⟨rfl, hb5⟩)
      go_ret
      exact HSAME.out _ 5 (by unfold addR; rw [if_pos HCC.out.symm, HH.out]; rfl) (by decide) (HB4.out.trans (hb5.mono (Nat.le_of_lt HX4.out.lt)))
  · go_wp2
    go_ret
    exact HSAME.out _ c (by unfold addR; rw [← HCC.out, if_neg hc0]) hc0 HB1.out
end Go.Proofs.Ytgdkcnpgnmmliab
