/- A Sorted of entries: Put of what isn't there. -/
import Derived.Test.YtgdkcnpgnmmliabS4
namespace Go.Proofs.Ytgdkcnpgnmmliab
set_option linter.unusedSimpArgs false
set_option linter.unusedVariables false
open Go.RowKit

def PutPost (w : World) (base gs : Nat) (v : Value) (M : List En) (e : Ending) (w' : World) : Prop :=
  ∃ v', e = .returned (.bool false) ∧ Sd w' base gs v' M ∧ Tch w w' (gs :: v.ownBlock.toList) ∧ (v'.ownBlock = v.ownBlock ∨ ∀ k, v'.ownBlock = some k → w.heap.size ≤ k)

set_option maxHeartbeats 2000000 in
set_option maxRecDepth 100000 in
theorem put_new (base gs : Nat) (v : Value) (L : List En) (x : En) (w : World) (h : Sd w base gs v L) (hbase : base ≤ w.heap.size) (hn6 : (L.length : Int) ≤ 1000000) (hh : hit cmpE L x = false) :
    Calls Try.prog 35 #[.pointer (some ⟨gs, 0, none⟩), x.val] w (PutPost w base gs v (ins cmpE L x)) := by
  obtain ⟨ti, hti, hts, htz, htb⟩ := infoE
  have hgl := h.box.lt
  have HF := Lib.hid (fun W (hb : Below w.heap.size w W) => find_any base gs v L x W (h.below hb) hn6)
  have HO := Lib.hid (fun W (hb : Below w.heap.size w W) => ordered_any gs _ W (h.box.keep (hb.block gs hgl)))
  rw [hh] at HF
  have hpl := pos_le cmpE L x
  have HI := fun vb W (hb : Below w.heap.size w W) hv hne => ins_any base vb (pos cmpE L x) v L x W hpl hn6 (Nat.le_trans hbase hb.size) (h.below hb).own hv hne
  have hsrt := h.srt.ins ordE x hh
  change ∀ vb W, Below w.heap.size w W → _ → _ → Calls Try.prog 48 _ W (fun e w' => ∃ v', e = .returned v' ∧ OwnE w' base v' (ins cmpE L x) ∧ W.grownBy w' v.ownBlock ∧ (v'.ownBlock = v.ownBlock ∨ ∀ k, v'.ownBlock = some k → W.heap.size ≤ k)) at HI
  have HI := Lib.hid HI
  generalize pos cmpE L x = p at *
  generalize ins cmpE L x = M at *
  go_enter Try.func35, Try.ntmps35
  go_upto_region 1 with fail
  generalize hw0 : w.alloc (.cells #[.string x.k, .int .u64 x.S, .bool x.d, .string x.v] 42) = w0
  have HB0 : Hid (Below w.heap.size w w0) := by rw [← hw0]; exact Lib.hid ((Below.refl _ _).alloc (Nat.le_refl _) _)
  have HX0 : Hid (Bx4 w0 w.heap.size (.string x.k) (.int .u64 x.S) (.bool x.d) (.string x.v)) := by rw [← hw0]; exact Lib.hid (Bx4.new w _ _ _ _ _)
  clear hw0
  have HP := Lib.hid h
  clear h
  generalize hb : w.heap.size = b at *
  have HBb := Lib.hid hb
  clear hb
  have hsz : b + 1 ≤ w0.heap.size := HX0.out.lt
  have x0 := HX0.out.c0
  have x1 := HX0.out.c1
  have x2 := HX0.out.c2
  have x3 := HX0.out.c3
  go_upto_region 6 with (first
    | (go_at_call 46; refine (HO.out _ HB0.out).mono ?_; rintro e w' ⟨rfl, rfl⟩)
    | (go_at_call 47; refine (HF.out _ HB0.out).mono ?_; rintro e w1 ⟨rfl, hb1⟩))
  clear x0 x1 x2 x3
  have hB1 : Below b w w1 := HB0.out.trans (hb1.mono (by omega))
  have X1 := HX0.out.keep (hb1.block b (by omega))
  have hs1 : b + 1 ≤ w1.heap.size := X1.lt
  have hP1 : Sd w1 base gs v L := HP.out.below (by rw [HBb.out]; exact hB1)
  have hvl : ∀ k, v.ownBlock = some k → k < b := fun k hk => by have := (HP.out.own.lt k hk).2; rw [HBb.out] at this; exact this
  have HK0 : Hid (w1.cell? ⟨b, 0, none⟩ = some (.string x.k) ∧ w1.cell? ⟨b, 1, none⟩ = some (.int .u64 x.S) ∧ w1.cell? ⟨b, 2, none⟩ = some (.bool x.d) ∧ w1.cell? ⟨b, 3, none⟩ = some (.string x.v)) := Lib.hid ⟨X1.c0, X1.c1, X1.c2, X1.c3⟩
  have HBL : Hid (∀ (a : Value), a = x.val → (Instr.buildSlice 35 1 #[(0, a)]).run Try.prog w1.drew = .ok (.slice (some ⟨w1.heap.size, 0, none⟩) 1 1) (w1.drew.alloc (.cells x.cells.toArray 42))) := Lib.hid fun a e => by
    have := run_buildSlice_rows (P := Try.prog) w1.drew 35 42 ti (ent ⟨#[]⟩ 0 false ⟨#[]⟩) 4 Try.underlying35 hti htz hts (by omega) 1 [x.cells] rfl (by omega) (by simp [En.cells_len]) (by omega) #[(0, a)] (by rw [e]; rfl)
    simpa using this
  obtain ⟨w2, hw2⟩ : ∃ w2, w2 = w1.drew.alloc (.cells x.cells.toArray 42) := ⟨_, rfl⟩
  have hb2 : Below w1.heap.size w1 w2 := by rw [hw2]; exact ((Below.refl _ _).drew).alloc (Nat.le_refl _) _
  have hn2 : w2.heap[w1.heap.size]? = some (.cells x.cells.toArray 42 (0, 0)) := by rw [hw2]; exact heap_alloc_new w1.drew _
  rw [← hw2] at HBL
  have X2 := X1.keep (hb2.block b hs1)
  have HK : Hid (w2.cell? ⟨b, 0, none⟩ = some (.string x.k) ∧ w2.cell? ⟨b, 1, none⟩ = some (.int .u64 x.S) ∧ w2.cell? ⟨b, 2, none⟩ = some (.bool x.d) ∧ w2.cell? ⟨b, 3, none⟩ = some (.string x.v)) := Lib.hid ⟨X2.c0, X2.c1, X2.c2, X2.c3⟩
  have hB2 : Below b w w2 := hB1.trans (hb2.mono (by omega))
  have HINS := Lib.hid (HI.out w1.heap.size w2 hB2 hn2 (fun e => by have := hvl _ e; omega))
  have hP2 : Sd w2 base gs v L := hP1.below hb2
  have hs2 : w1.heap.size < w2.heap.size := (Array.getElem?_eq_some_iff.1 hn2).1
  have HFR : Hid (∀ W3, w2.grownBy W3 v.ownBlock → (W3.cell? ⟨b, 0, none⟩ = some (.string x.k) ∧ W3.cell? ⟨b, 1, none⟩ = some (.int .u64 x.S) ∧ W3.cell? ⟨b, 2, none⟩ = some (.bool x.d) ∧ W3.cell? ⟨b, 3, none⟩ = some (.string x.v)) ∧ W3.cell? ⟨gs, 1, none⟩ = some v ∧ W3.frozen? ⟨gs, 1, none⟩ = false ∧ Bx2 W3 gs fCmp v) := Lib.hid fun W3 hg => by
    have X3 := X2.keep (hg.block b (by omega) (fun e => by have := hvl _ e.symm; omega))
    have B3 := hP2.box.keep (hg.block gs (by omega) (fun e => hP2.ne e.symm))
    exact ⟨⟨X3.c0, X3.c1, X3.c2, X3.c3⟩, B3.c1, B3.cold 1, B3⟩
  have HSE : Hid (∀ W3, w2.grownBy W3 v.ownBlock → ∀ v', (W3.setCell ⟨gs, 1, none⟩ v').cell? ⟨b, 0, none⟩ = some (.string x.k) ∧ (W3.setCell ⟨gs, 1, none⟩ v').cell? ⟨b, 1, none⟩ = some (.int .u64 x.S) ∧ (W3.setCell ⟨gs, 1, none⟩ v').cell? ⟨b, 2, none⟩ = some (.bool x.d) ∧ (W3.setCell ⟨gs, 1, none⟩ v').cell? ⟨b, 3, none⟩ = some (.string x.v)) := Lib.hid fun W3 hg v' => by
    have f := (HFR.out W3 hg).1
    have o : ∀ j, (W3.setCell ⟨gs, 1, none⟩ v').cell? ⟨b, j, none⟩ = W3.cell? ⟨b, j, none⟩ := fun j => World.cell?_setCell_far _ _ _ _ (by show gs ≠ b; omega)
    rw [o, o, o, o]
    exact f
  have HEND : Hid (∀ W3 v', OwnE W3 base v' M → w2.grownBy W3 v.ownBlock → (v'.ownBlock = v.ownBlock ∨ ∀ k, v'.ownBlock = some k → w2.heap.size ≤ k) → PutPost w base gs v M (.returned (.bool false)) (W3.setCell ⟨gs, 1, none⟩ v')) := Lib.hid fun W3 v' hO hg hor => by
    have B3 := (HFR.out W3 hg).2.2.2
    have hne : v'.ownBlock ≠ some gs := by
      rcases hor with e | e
      · rw [e]; exact hP2.ne
      · intro hk; have := e gs hk; omega
    have gr := grown_setCell W3 ⟨gs, 1, none⟩ v'
    refine ⟨v', rfl, ⟨B3.set1 v', ownN_keep hO (fun k hk => gr.block k (hO.lt k hk).2 (fun e => hne (by rw [hk]; exact e))), hP2.lo, hne, hsrt⟩, ?_, ?_⟩
    · refine ⟨?_, ?_, ?_, ?_, fun k hk hL => ?_⟩
      · exact (gr.os.trans hg.os).trans hB2.os
      · exact (gr.tape.trans hg.tape).trans hB2.tape
      · exact (gr.output.trans hg.output).trans hB2.output
      · exact Nat.le_trans hB2.size (Nat.le_trans hg.size gr.size)
      · rw [HBb.out] at hk
        simp only [List.mem_cons, Option.mem_toList, not_or] at hL
        have h2 : k < w2.heap.size := by omega
        rw [gr.block k (Nat.lt_of_lt_of_le h2 hg.size) (fun e => hL.1 (by injection e)), hg.block k h2 (fun e => hL.2 e.symm)]
        exact hB2.block k hk
    · rcases hor with e | e
      · exact .inl e
      · exact .inr fun k hk => by have := e k hk; rw [HBb.out]; omega
  have l1 := hP2.box.c1
  have l0 := hP1.box.c1
  clear hP1 hP2 hvl hw2 hb2 hn2 X2 hB2 hs2 X1 hB1 hb1 hti hts htz htb hsrt
  refine wp_region_noPanic ?_
  refine wp_region_held_drew (S := (fun wx => wx.cell? ⟨b, 0, none⟩ = some (.string x.k) ∧ wx.cell? ⟨b, 1, none⟩ = some (.int .u64 x.S) ∧ wx.cell? ⟨b, 2, none⟩ = some (.bool x.d) ∧ wx.cell? ⟨b, 3, none⟩ = some (.string x.v))) (by kernel_rfl) (HK0.out) (fun hHeld => ?_)
  refine wpAnyH_take (i := 0) (v := ?_) (by simp only [List.getElem?_toArray, List.getElem?_cons_succ, List.getElem?_cons_zero]; rfl) (by kernel_rfl) (by kernel_rfl) (by kernel_rfl) (fun _ _ _ h => h) (Or.inl ⟨by rfl, ?_⟩) (by assumption) ?_
  rotate_left
  · (intro w hSw; (try dsimp only at hSw); go_simp; (try with_reducible rfl))
  (try simp only [Act.put, List.setIfInBounds_toArray, List.set_cons_zero, List.set_cons_succ])
  refine wpAnyH_take (i := 1) (v := ?_) (by simp only [List.getElem?_toArray, List.getElem?_cons_succ, List.getElem?_cons_zero]; rfl) (by kernel_rfl) (by kernel_rfl) (by kernel_rfl) (fun _ _ _ h => h) (Or.inl ⟨by rfl, ?_⟩) (by assumption) ?_
  rotate_left
  · (intro w hSw; (try dsimp only at hSw); go_simp; (try with_reducible rfl))
  (try simp only [Act.put, List.setIfInBounds_toArray, List.set_cons_zero, List.set_cons_succ])
  refine wpAnyH_take (i := 2) (v := ?_) (by simp only [List.getElem?_toArray, List.getElem?_cons_succ, List.getElem?_cons_zero]; rfl) (by kernel_rfl) (by kernel_rfl) (by kernel_rfl) (fun _ _ _ h => h) (Or.inl ⟨by rfl, ?_⟩) (by assumption) ?_
  rotate_left
  · (intro w hSw; (try dsimp only at hSw); go_simp; (try with_reducible rfl))
  (try simp only [Act.put, List.setIfInBounds_toArray, List.set_cons_zero, List.set_cons_succ])
  refine wpAnyH_take (i := 3) (v := ?_) (by simp only [List.getElem?_toArray, List.getElem?_cons_succ, List.getElem?_cons_zero]; rfl) (by kernel_rfl) (by kernel_rfl) (by kernel_rfl) (fun _ _ _ h => h) (Or.inl ⟨by rfl, ?_⟩) (by assumption) ?_
  rotate_left
  · (intro w hSw; (try dsimp only at hSw); go_simp; (try with_reducible rfl))
  (try simp only [Act.put, List.setIfInBounds_toArray, List.set_cons_zero, List.set_cons_succ])
  refine wpAnyH_take (i := 5) (v := ?_) (by simp only [List.getElem?_toArray, List.getElem?_cons_succ, List.getElem?_cons_zero]; rfl) (by kernel_rfl) (by kernel_rfl) (by kernel_rfl) (fun _ _ _ h => h) (Or.inl ⟨by rfl, ?_⟩) (by assumption) ?_
  rotate_left
  · (intro w hSw; (try dsimp only at hSw); go_simp; (try with_reducible rfl))
  (try simp only [Act.put, List.setIfInBounds_toArray, List.set_cons_zero, List.set_cons_succ])
  refine wpAnyH_take (i := 6) (v := ?_) (by simp only [List.getElem?_toArray, List.getElem?_cons_succ, List.getElem?_cons_zero]; rfl) (by kernel_rfl) (by kernel_rfl) (by kernel_rfl) (fun _ _ _ h => h) (Or.inl ⟨by rfl, ?_⟩) (by assumption) ?_
  rotate_left
  · (intro w hSw; (try dsimp only at hSw); go_simp; (try with_reducible rfl))
  (try simp only [Act.put, List.setIfInBounds_toArray, List.set_cons_zero, List.set_cons_succ])
  refine wpAnyH_ready (rs := [4, 7]) (by kernel_rfl) (by simp) ?_
  refine AllReadyH.cons (by simp only [List.getElem?_toArray, List.getElem?_cons_succ, List.getElem?_cons_zero]; rfl) (fun K hK => ?_) (AllReadyH.cons (by simp only [List.getElem?_toArray, List.getElem?_cons_succ, List.getElem?_cons_zero]; rfl) (fun K hK => ?_) AllReadyH.nil)
  · go_simp
    refine hK.out _ _ ?_ (fun hHeld => ?_)
    · exact hHeld
    clear hK K
    (try simp only [Act.put, List.setIfInBounds_toArray, List.set_cons_zero, List.set_cons_succ])
    refine wpAnyH_ready (rs := [7]) (by kernel_rfl) (by simp) ?_
    refine AllReadyH.cons (by simp only [List.getElem?_toArray, List.getElem?_cons_succ, List.getElem?_cons_zero]; rfl) (fun K hK => ?_) AllReadyH.nil
    refine (if_pos rfl).mpr (wp_buildSlice_1 35 (.tmp 30) rfl rfl (HBL.out _ rfl) ?_)
    refine hK.out _ _ ?_ (fun hHeld => ?_)
    · exact HK.out
    clear hK K
    (try simp only [Act.put, List.setIfInBounds_toArray, List.set_cons_zero, List.set_cons_succ])
    refine wpAnyH_ready (rs := [8]) (by kernel_rfl) (by simp) ?_
    refine AllReadyH.cons (by simp only [List.getElem?_toArray, List.getElem?_cons_succ, List.getElem?_cons_zero]; rfl) (fun K hK => ?_) AllReadyH.nil
    go_simp
    refine (HINS.out).mono ?_
    rintro ee W3 ⟨v', rfl, hO3, hgr3, hb3⟩
    obtain ⟨A3, c3, rfl, _, _, _⟩ := own_rdN hO3
    have HO3 := Lib.hid hO3
    have HG3 := Lib.hid hgr3
    have HH3 := Lib.hid hb3
    have f1 := HFR.out W3 hgr3
    clear hO3 hgr3 hb3
    refine hK.out _ _ ?_ (fun hHeld => ?_)
    · exact f1.1
    clear hK K
    (try simp only [Act.put, List.setIfInBounds_toArray, List.set_cons_zero, List.set_cons_succ])
    refine wpAnyH_take (i := 9) (v := ?_) (by simp only [List.getElem?_toArray, List.getElem?_cons_succ, List.getElem?_cons_zero]; rfl) (by kernel_rfl) (by kernel_rfl) (by kernel_rfl) (fun _ _ _ h => h) (Or.inl ⟨by rfl, ?_⟩) (by assumption) ?_
    rotate_left
    · (intro w hSw; (try dsimp only at hSw); go_simp; (try with_reducible rfl))
    (try simp only [Act.put, List.setIfInBounds_toArray, List.set_cons_zero, List.set_cons_succ])
    refine wpAnyH_take (i := 10) (v := ?_) (by simp only [List.getElem?_toArray, List.getElem?_cons_succ, List.getElem?_cons_zero]; rfl) (by kernel_rfl) (by kernel_rfl) (by kernel_rfl) (fun _ _ _ h => h) (Or.inl ⟨by rfl, ?_⟩) (by assumption) ?_
    rotate_left
    · (intro w hSw; (try dsimp only at hSw); go_simp; (try with_reducible rfl))
    (try simp only [Act.put, List.setIfInBounds_toArray, List.set_cons_zero, List.set_cons_succ])
    refine wpAnyH_ready (rs := [11]) (by kernel_rfl) (by simp) ?_
    refine AllReadyH.cons (by simp only [List.getElem?_toArray, List.getElem?_cons_succ, List.getElem?_cons_zero]; rfl) (fun K hK => ?_) AllReadyH.nil
    have f2 := f1.2.1
    have f3 := f1.2.2.1
    go_simp
    refine hK.out _ _ ?_ (fun hHeld => ?_)
    · exact HSE.out W3 HG3.out _
    clear hK K
    (try simp only [Act.put, List.setIfInBounds_toArray, List.set_cons_zero, List.set_cons_succ])
    refine wpAnyH_done (by kernel_rfl) ?_ _
    refine NoPanic.normal ?_
    clear f1 f2 f3 hHeld
    have HE := Lib.hid (HEND.out W3 _ HO3.out HG3.out HH3.out)
    go_wp2
    go_ret
    exact HE.out
  · refine (if_pos rfl).mpr (wp_buildSlice_1 35 (.tmp 30) rfl rfl (HBL.out _ rfl) ?_)
    refine hK.out _ _ ?_ (fun hHeld => ?_)
    · exact HK.out
    clear hK K
    (try simp only [Act.put, List.setIfInBounds_toArray, List.set_cons_zero, List.set_cons_succ])
    refine wpAnyH_ready (rs := [4]) (by kernel_rfl) (by simp) ?_
    refine AllReadyH.cons (by simp only [List.getElem?_toArray, List.getElem?_cons_succ, List.getElem?_cons_zero]; rfl) (fun K hK => ?_) AllReadyH.nil
    go_simp
    refine hK.out _ _ ?_ (fun hHeld => ?_)
    · exact hHeld
    clear hK K
    (try simp only [Act.put, List.setIfInBounds_toArray, List.set_cons_zero, List.set_cons_succ])
    refine wpAnyH_ready (rs := [8]) (by kernel_rfl) (by simp) ?_
    refine AllReadyH.cons (by simp only [List.getElem?_toArray, List.getElem?_cons_succ, List.getElem?_cons_zero]; rfl) (fun K hK => ?_) AllReadyH.nil
    go_simp
    refine (HINS.out).mono ?_
    rintro ee W3 ⟨v', rfl, hO3, hgr3, hb3⟩
    obtain ⟨A3, c3, rfl, _, _, _⟩ := own_rdN hO3
    have HO3 := Lib.hid hO3
    have HG3 := Lib.hid hgr3
    have HH3 := Lib.hid hb3
    have f1 := HFR.out W3 hgr3
    clear hO3 hgr3 hb3
    refine hK.out _ _ ?_ (fun hHeld => ?_)
    · exact f1.1
    clear hK K
    (try simp only [Act.put, List.setIfInBounds_toArray, List.set_cons_zero, List.set_cons_succ])
    refine wpAnyH_take (i := 9) (v := ?_) (by simp only [List.getElem?_toArray, List.getElem?_cons_succ, List.getElem?_cons_zero]; rfl) (by kernel_rfl) (by kernel_rfl) (by kernel_rfl) (fun _ _ _ h => h) (Or.inl ⟨by rfl, ?_⟩) (by assumption) ?_
    rotate_left
    · (intro w hSw; (try dsimp only at hSw); go_simp; (try with_reducible rfl))
    (try simp only [Act.put, List.setIfInBounds_toArray, List.set_cons_zero, List.set_cons_succ])
    refine wpAnyH_take (i := 10) (v := ?_) (by simp only [List.getElem?_toArray, List.getElem?_cons_succ, List.getElem?_cons_zero]; rfl) (by kernel_rfl) (by kernel_rfl) (by kernel_rfl) (fun _ _ _ h => h) (Or.inl ⟨by rfl, ?_⟩) (by assumption) ?_
    rotate_left
    · (intro w hSw; (try dsimp only at hSw); go_simp; (try with_reducible rfl))
    (try simp only [Act.put, List.setIfInBounds_toArray, List.set_cons_zero, List.set_cons_succ])
    refine wpAnyH_ready (rs := [11]) (by kernel_rfl) (by simp) ?_
    refine AllReadyH.cons (by simp only [List.getElem?_toArray, List.getElem?_cons_succ, List.getElem?_cons_zero]; rfl) (fun K hK => ?_) AllReadyH.nil
    have f2 := f1.2.1
    have f3 := f1.2.2.1
    go_simp
    refine hK.out _ _ ?_ (fun hHeld => ?_)
    · exact HSE.out W3 HG3.out _
    clear hK K
    (try simp only [Act.put, List.setIfInBounds_toArray, List.set_cons_zero, List.set_cons_succ])
    refine wpAnyH_done (by kernel_rfl) ?_ _
    refine NoPanic.normal ?_
    clear f1 f2 f3 hHeld
    have HE := Lib.hid (HEND.out W3 _ HO3.out HG3.out HH3.out)
    go_wp2
    go_ret
    exact HE.out

end Go.Proofs.Ytgdkcnpgnmmliab
