/- Walks: record.Put. -/
import Derived.Test.YtahbhaphodgomabDoorR2
namespace Go.Proofs.YtahbhaphodgomabDoor
set_option linter.unusedSimpArgs false
set_option linter.unusedVariables false
open Go.RowKit

theorem Laid.before {w w2 w4 : World} {base : Nat} {v v4 : Value} {n : Nat} {xs : List Value} (hg : w.grownBy w2 v.ownBlock) (h : Laid w2 base v w4 v4 n xs) : Laid w base v w4 v4 n xs :=
  ⟨h.buf, hg.trans h.grown, h.own.imp id fun e k hk => Nat.le_trans hg.size (e k hk)⟩
theorem grownBy_below {w w' : World} (h : Below w.heap.size w w') (row : Option Nat) : w.grownBy w' row := ⟨h.os, h.tape, h.output, h.size, fun k hk _ => h.block k hk⟩
theorem grownBy_setCells (w : World) (g o : Nat) (ys : List Value) : w.grownBy (w.setCells g o ys) (some g) := by
  have h := rest_setCells g ys o w
  exact ⟨h.1, h.2.1, h.2.2, by rw [size_setCells]; exact Nat.le_refl _, fun k _ hk => heap_setCells g ys o w k (fun e => hk (by rw [e]))⟩

/-- First what stands behind, then what stands ahead of it. -/
theorem Buf.laid2 {w : World} {base g off n c : Nat} {xs : List Value} (h : Buf w base (.slice (some ⟨g, off, none⟩) n c) n xs) (hs ys : List Value) (k : Nat) (hk : hs.length = k) (hc : n + k + ys.length ≤ c) :
    Buf ((w.setCells g (off + (n + k)) ys).setCells g (off + n) hs) base (.slice (some ⟨g, off, none⟩) (n + k + ys.length) c) (n + k + ys.length) (xs ++ (hs ++ ys)) := by
  subst hk
  have h1 := (h.ahead (n + hs.length) ys (by omega) hc).filled hs (by omega)
  rcases h1.2 with ⟨e, _⟩ | ⟨g', off', cap, e, hb, hlt, hnc, hcm, hx, hsp⟩
  · cases e
  · injection e with e1 e2 e3
    injection e1 with e1
    injection e1 with e4 e5
    subst e4; subst e5; subst e3
    refine ⟨by simp [h.1]; omega, .inr ⟨g, off, c, rfl, hb, hlt, hc, hcm, fun j u hu => ?_, fun j j1 j2 => hsp j (by omega) j2⟩⟩
    rw [← List.append_assoc] at hu
    by_cases hj : j < (xs ++ hs).length
    · rw [List.getElem?_append_left hj] at hu
      exact hx j u hu
    · rw [List.getElem?_append_right (by omega)] at hu
      have hlen : (xs ++ hs).length = n + hs.length := by rw [List.length_append, h.1]
      have hjn : j - (xs ++ hs).length < ys.length := (List.getElem?_eq_some_iff.1 hu).1
      rw [World.cell?_setCells_out g hs (off + n) _ _ (fun _ _ => .inr (by show off + n + hs.length ≤ off + j; omega))]
      rcases h.2 with ⟨e, _⟩ | ⟨g', off', cap, e, _, _, _, _, _, hsp0⟩
      · cases e
      · injection e with e1 e2 e3
        injection e1 with e1
        injection e1 with e4 e5
        subst e4; subst e5; subst e3
        have := World.cell?_setCells_in g ys (off + (n + hs.length)) w (fun j' hj' => by rw [Nat.add_assoc]; exact (hsp0 (n + hs.length + j') (by omega) (by omega)).1) (j - (xs ++ hs).length) hjn
        rw [show off + (n + hs.length) + (j - (xs ++ hs).length) = off + j by omega] at this
        rw [this, ← hu, List.getElem?_eq_getElem hjn]

def recB (d : List Nat) : List Nat := hdr d ++ d
theorem recB_len (d : List Nat) : (recB d).length = 12 + d.length := by simp [recB, hdr_len]
theorem recB_lt (d : List Nat) (hd : ∀ c ∈ d, c < 256) : ∀ c ∈ recB d, c < 256 := by
  intro c hc
  simp only [recB, List.mem_append] at hc
  rcases hc with hc | hc
  · exact hdr_lt d c hc
  · exact hd c hc

set_option maxHeartbeats 400000 in
theorem put_long (v : Value) (A : Option Addr) (L cd : Nat) (w : World) (hL : (1048576 : Int) < (L : Int)) :
    Calls Tryd.prog 10 #[v, .slice A L cd] w fun e w' => e = .returned (.tuple #[v, .int .i64 6]) ∧ w = w' := by
  go_enter Tryd.func10, Tryd.ntmps10
  go_wp2
  go_ret2
  exact ⟨rfl, rfl⟩

set_option maxHeartbeats 1000000 in
set_option maxRecDepth 100000 in
theorem put_any (A : Option Addr) (L cd : Nat) (d : List Nat) (w : World) (base : Nat) {v : Value} {n : Nat} {xs : List Value} (hbuf : Buf w base v n xs) (hn : n ≤ 100000000) (hbase : base ≤ w.heap.size)
    (hr : Rd w w.heap.size A L (bys d)) (hd : ∀ c ∈ d, c < 256) (hL : L ≤ 1048576) (hap : ∀ g off, A = some ⟨g, off, none⟩ → 0 < L → v.ownBlock ≠ some g) (ht : TabAt w) :
    Calls Tryd.prog 10 #[v, .slice A L cd] w fun e w' => ∃ v', e = .returned (.tuple #[v', .int .i64 0]) ∧ Laid w base v w' v' (n + (12 + L)) (xs ++ bys (recB d)) := by
  obtain ⟨i0, hi, hz0, hz1, hz2⟩ := info_parts Tryd.info5
  have hdl : d.length = L := by have := hr.1; rwa [bys_len] at this
  obtain ⟨A0, c0, rfl, hnc0, _⟩ := hbuf.slice
  have hLI : decide ((1048576 : Int) < (L : Int)) = false := by simp; omega
  have HH := Lib.hid (headOf_any A L cd d w _ (Nat.le_refl _) hr hd (by omega) ht)
  have HD := Lib.hid hd
  have HAP := Lib.hid hap
  clear ht hd hap
  go_enter Tryd.func10, Tryd.ntmps10
  go_wp2_with fail
  refine HH.out.mono ?_
  rintro e w1 ⟨v1, rfl, hl1⟩
  have hb1 := hl1.below (Buf.nil w _) (Nat.le_refl _)
  have hs1 := hb1.size
  have hbuf1 := hbuf.below hb1 (fun k hk => (hbuf.lt k hk).2)
  have hblt := hbuf.lt
  have hr1 := hr.below hb1
  go_wp2_with fail
  refine (grow_any (12 + L) w1 base hbuf1 (by omega) (by omega) (by omega)).mono ?_
  rintro e w2 ⟨g, off, c, rfl, hcap, hl2⟩
  have hs2 := hl2.grown.size
  -- where things lie
  obtain ⟨A1, c1, rfl, _, _⟩ := hl1.buf.slice
  have hne1 : ∀ k, (Value.slice A1 12 c1).ownBlock = some k → some k ≠ (Value.slice A0 n c0).ownBlock := fun k hk e => by
    have h1 := (hl1.buf.lt k hk).1
    have h2 := (hblt k e.symm).2
    omega
  have hbh := hl1.buf.grown hl2.grown hne1
  have hg1 : ∀ k, (Value.slice A1 12 c1).ownBlock = some k → k ≠ g := fun k hk e => by
    subst e
    have h1 := hl1.buf.lt k hk
    rcases hl2.own with h | h
    · have := hblt k (by rw [← h]; rfl)
      omega
    · have := h k rfl
      omega
  have hcm : c ≤ maxLen := hl2.buf.cap_le
  have hin : (Tryd.prog.info? 5).map (·.size) = some 1 := by rw [hi]; simp [hz1]
  have hsp2 : ∀ j, n ≤ j → j < c → (w2.cell? ⟨g, off + j, none⟩).isSome = true ∧ w2.frozen? ⟨g, off + j, none⟩ = false := by
    rcases hl2.buf.2 with ⟨e, _⟩ | ⟨g', off', cap, e, _, _, _, _, _, hsp⟩
    · cases e
    · injection e with e1 e2 e3
      injection e1 with e1
      injection e1 with e4 e5
      subst e4; subst e5; subst e3
      exact hsp
  have hsl1 := fun wx => run_slice_h (P := Tryd.prog) wx 22 5 i0 Tryd.underlying22 hi hz1 (some ⟨g, off, none⟩) n c (n + 12 + L) (by omega) .i64 ((n : Int) + 12 + (L : Int)) (by omega)
  have hsl2 := fun wx => run_slice_l (P := Tryd.prog) wx 22 5 i0 Tryd.underlying22 hi hz1 (some ⟨g, off, none⟩) (n + 12 + L) c (n + 12) (by omega) .i64 ((n : Int) + 12) (by omega)
  have hsl3 := fun wx => run_slice_l (P := Tryd.prog) wx 22 5 i0 Tryd.underlying22 hi hz1 (some ⟨g, off, none⟩) (n + 12 + L) c n (by omega) .i64 (n : Int) rfl
  rw [show n + 12 + L - (n + 12) = L by omega] at hsl2
  rw [show n + 12 + L - n = 12 + L by omega, if_neg (by omega)] at hsl3
  have hcp1 : ∀ ty, (Builtin.copy_ #[22, 22] ty #[.slice (if c = n + 12 then some ⟨g, off, none⟩ else (some (⟨g, off, none⟩ : Addr)).map (·.add (n + 12))) L (c - (n + 12)), .slice A L cd]).run Tryd.prog w2 = .ok (goInt L) (w2.setCells g (off + (n + 12)) (bys d)) := by
    intro ty
    rcases Nat.eq_zero_or_pos L with h0 | h0
    · subst h0
      have : d = [] := List.eq_nil_of_length_eq_zero hdl
      subst this
      exact run_copy_none (P := Tryd.prog) w2 22 22 ty 5 _ _ _ _ _ _ Tryd.underlying22 hin (by simp)
    · obtain ⟨gd, od, rfl, hgd, hcell⟩ := hr1.2 h0
      have hnd : (Value.slice A0 n c0).ownBlock ≠ some gd := HAP.out gd od rfl h0
      have hblk : w2.heap[gd]? = w1.heap[gd]? := hl2.grown.block gd (by omega) (fun e => hnd e.symm)
      rw [if_neg (by omega)]
      have := run_copy_cells (P := Tryd.prog) w2 22 22 ty 5 g (off + (n + 12)) L (c - (n + 12)) ⟨gd, od, none⟩ L cd (bys d) Tryd.underlying22 hin (by rw [bys_len, hdl]; simp)
        (fun j u hu => by rw [Addr.add_lit, World.cell?_of_block (w := w1) hblk]; exact hcell j u hu)
        (fun j hj => by rw [Nat.add_assoc]; exact (hsp2 (n + 12 + j) (by omega) (by rw [bys_len, hdl] at hj; omega)).1)
        (fun j hj => by rw [Nat.add_assoc]; exact (hsp2 (n + 12 + j) (by omega) (by rw [bys_len, hdl] at hj; omega)).2) (bys_one _)
      rw [bys_len, hdl] at this
      simpa [Addr.add_lit] using this
  have hW3c : ∀ j u, (bys (hdr d))[j]? = some u → ∀ x y, A1 = some ⟨x, y, none⟩ → (w2.setCells g (off + (n + 12)) (bys d)).cell? ⟨x, y + j, none⟩ = some u := by
    rintro j u hu x y rfl
    rw [World.cell?_setCells_out g _ _ _ _ (fun e _ => absurd e (hg1 x rfl))]
    rcases hbh.2 with ⟨e, _⟩ | ⟨g', off', cap, e, _, _, _, _, hx, _⟩
    · cases e
    · injection e with e1
      injection e1 with e1
      injection e1 with e4 e5
      subst e4; subst e5
      exact hx j u hu
  have hcp2 : ∀ ty, (Builtin.copy_ #[22, 22] ty #[.slice ((some (⟨g, off, none⟩ : Addr)).map (·.add n)) (12 + L) (c - n), .slice A1 12 c1]).run Tryd.prog (w2.setCells g (off + (n + 12)) (bys d)) =
      .ok (goInt 12) ((w2.setCells g (off + (n + 12)) (bys d)).setCells g (off + n) (bys (hdr d))) := by
    intro ty
    have hA1 : ∃ x y, A1 = some ⟨x, y, none⟩ := by
      rcases hbh.2 with ⟨_, e⟩ | ⟨g', off', cap, e, _⟩
      · omega
      · injection e with e1
        exact ⟨g', off', e1⟩
    obtain ⟨x, y, rfl⟩ := hA1
    have hl12 : (bys (hdr d)).length = 12 := by rw [bys_len, hdr_len]
    have hx3 := hl2.buf.ahead (n + 12) (bys d) (by omega) (by rw [bys_len, hdl]; omega)
    have hsp3 : ∀ j, n ≤ j → j < c → ((w2.setCells g (off + (n + 12)) (bys d)).cell? ⟨g, off + j, none⟩).isSome = true ∧ (w2.setCells g (off + (n + 12)) (bys d)).frozen? ⟨g, off + j, none⟩ = false := by
      rcases hx3.2 with ⟨e, _⟩ | ⟨g', off', cap, e, _, _, _, _, _, hsp⟩
      · cases e
      · injection e with e1 e2 e3
        injection e1 with e1
        injection e1 with e4 e5
        subst e4; subst e5; subst e3
        exact hsp
    have := run_copy_cells (P := Tryd.prog) (w2.setCells g (off + (n + 12)) (bys d)) 22 22 ty 5 g (off + n) (12 + L) (c - n) ⟨x, y, none⟩ 12 c1 (bys (hdr d)) Tryd.underlying22 hin (by rw [hl12]; show 12 = min 12 (12 + L); omega)
      (fun j u hu => by rw [Addr.add_lit]; exact hW3c j u hu x y rfl)
      (fun j hj => by rw [Nat.add_assoc]; exact (hsp3 (n + j) (by omega) (by omega)).1)
      (fun j hj => by rw [Nat.add_assoc]; exact (hsp3 (n + j) (by omega) (by omega)).2) (bys_one _)
    rw [hl12] at this
    simpa [Addr.add_lit] using this
  have hfin := hl2.buf.laid2 (bys (hdr d)) (bys d) 12 (by rw [bys_len, hdr_len]) (by rw [bys_len, hdl]; omega)
  have hgr := (grownBy_setCells w2 g (off + (n + 12)) (bys d)).trans (grownBy_setCells _ g (off + n) (bys (hdr d)))
  rw [bys_len, hdl] at hfin
  have hlaid : Laid w base (.slice A0 n c0) ((w2.setCells g (off + (n + 12)) (bys d)).setCells g (off + n) (bys (hdr d))) (.slice (some ⟨g, off, none⟩) (n + 12 + L) c) (n + (12 + L)) (xs ++ bys (recB d)) := by
    rw [recB, bys_app, show n + (12 + L) = n + 12 + L by omega]
    exact Laid.before (grownBy_below hb1 _) (hl2.trans ⟨hfin, hgr, .inl rfl⟩)
  generalize hAd : (if c = n + 12 then some (⟨g, off, none⟩ : Addr) else (some (⟨g, off, none⟩ : Addr)).map (·.add (n + 12))) = Ad at *
  generalize hAe : (some (⟨g, off, none⟩ : Addr)).map (·.add n) = Ae at *
  generalize w2.setCells g (off + (n + 12)) (bys d) = W3 at *
  generalize W3.setCells g (off + n) (bys (hdr d)) = W4 at *
  clear hfin hgr hW3c hsp2 hg1 hne1 hbh hAd hAe hl1 hl2 hr1 hbuf1 hblt
  unfold maxLen at hcm
  go_wp2_with (first
    | (with_reducible refine wpList_copy_by rfl (.tmp 30) (.tmp 31) 22 22 rfl rfl rfl (hcp1 _) ?_)
    | (with_reducible refine wpList_copy_by rfl (.tmp 35) (.tmp 36) 22 22 rfl rfl rfl (hcp2 _) ?_))
  go_ret2
  exact ⟨_, rfl, hlaid⟩
end Go.Proofs.YtahbhaphodgomabDoor
