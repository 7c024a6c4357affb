/- record.Put, with what may be written: no cell of the row is frozen, and it begins at its block's first cell. -/
import Derived.Test.YtahbhaphodgomabDoorR5
namespace Go.Proofs.YtahbhaphodgomabDoor
set_option linter.unusedSimpArgs false
set_option linter.unusedVariables false
open Go.RowKit

def Warm (w : World) (v : Value) : Prop := ∀ g off n c, v = .slice (some ⟨g, off, none⟩) n c → off = 0 ∧ ∀ o, w.frozen? ⟨g, o, none⟩ = false
theorem warm_new (w : World) (C : Array Value) (e : TypeId) (n c : Nat) : Warm (w.alloc (.cells C e)) (.slice (some ⟨w.heap.size, 0, none⟩) n c) := by
  intro g off n' c' e'
  injection e' with e1 e2 e3
  injection e1 with e1
  injection e1 with e4 e5
  subst e4; subst e5
  exact ⟨rfl, fun o => by
    have hg : (w.alloc (.cells C e)).heap[w.heap.size]? = some (.cells C e) := heap_alloc_new w _
    unfold World.frozen?
    rw [hg]
    simp⟩
theorem Warm.keep {w w' : World} {v : Value} (h : Warm w v) (hk : ∀ k, v.ownBlock = some k → w'.heap[k]? = w.heap[k]?) : Warm w' v := by
  intro g off n c e
  obtain ⟨q1, q2⟩ := h g off n c e
  refine ⟨q1, fun o => ?_⟩
  rw [World.frozen?_of_block (w := w) (a := ⟨g, o, none⟩) (hk g (by rw [e]; rfl))]
  exact q2 o
theorem grow_warm (m : Nat) (w : World) (base : Nat) {v : Value} {n : Nat} {xs : List Value} (hbuf : Buf w base v n xs) (hn : n + m ≤ 1000000000) (hm : 0 < m) (hbase : base ≤ w.heap.size) :
    Calls Tryd.prog 18 #[v, .int .i64 (m : Int)] w fun e w' => ∃ g off c, e = .returned (.slice (some ⟨g, off, none⟩) n c) ∧ n + m ≤ c ∧ Laid w base v w' (.slice (some ⟨g, off, none⟩) n c) n xs ∧ (Warm w v → Warm w' (.slice (some ⟨g, off, none⟩) n c)) := by
  have main : ∀ (A : Option Addr) (c : Nat) (cs : List Value), v = .slice A n c → n ≤ c → c < n + m → cs.length = c → (Builtin.firstCells 1 c (.slice A c c)).run Tryd.prog w.drew = .ok cs.toArray w.drew → cs.take n = xs →
      Calls Tryd.prog 18 #[v, .int .i64 (m : Int)] w fun e w' => ∃ g off c, e = .returned (.slice (some ⟨g, off, none⟩) n c) ∧ n + m ≤ c ∧ Laid w base v w' (.slice (some ⟨g, off, none⟩) n c) n xs ∧ (Warm w v → Warm w' (.slice (some ⟨g, off, none⟩) n c)) := by
    intro A c cs hv hnc hlt hcl hold htake
    subst hv
    refine (grow_more A n c m cs w hnc hlt (by omega) hcl hold).mono ?_
    rintro e w' ⟨rfl, rfl⟩
    have hge := grownCap_ge w (n + m) c 5
    have hle := grownCap_le_maxLen w (n + m) c 5 (by unfold maxLen; omega)
    refine ⟨_, _, _, rfl, hge, ⟨?_, ⟨rfl, rfl, rfl, by simp, fun k hk _ => Below.heap_alloc w.drew _ k hk⟩, .inr fun k hk => by simp [Value.ownBlock] at hk; omega⟩, fun _ => warm_new w.drew _ _ _ _⟩
    have hz1 : (Value.int IntKind.u8 0).cells.size = 1 := rfl
    have hsize : (cs.toArray ++ Builtin.zeroCells (Value.int .u8 0).cells (n + m - c) ++ Builtin.zeroCells (Value.int .u8 0).cells (grownCap w (n + m) c 5 - (n + m))).size = grownCap w (n + m) c 5 := by
      simp only [Array.size_append, List.size_toArray, size_zeroCells, hz1, hcl]
      omega
    refine Buf.of_own (e := 5) ⟨by rw [hbuf.1, Nat.mul_one], .inr ⟨w.heap.size, _, _, rfl, hbase, heap_alloc_new w.drew _, by omega, hle, by rw [hsize, Nat.mul_one], ?_⟩⟩
    rw [Nat.mul_one, Array.toList_append, Array.toList_append, List.append_assoc]
    have e1 : cs.toArray.toList = cs := rfl
    rw [e1, List.take_append_of_le_length (by omega)]
    exact htake
  rcases hbuf.2 with ⟨rfl, rfl⟩ | ⟨g, off, cap, rfl, hb, hlt, hnc, hcm, hx, hsp⟩
  · have hx0 : xs = [] := List.eq_nil_of_length_eq_zero hbuf.1
    subst hx0
    exact main none 0 [] rfl (Nat.le_refl _) (by omega) rfl (run_firstCells_none w.drew 1 0 0 0) rfl
  · by_cases hroom : n + m ≤ cap
    · refine (grow_room (some ⟨g, off, none⟩) n cap m w hnc hcm hroom).mono ?_
      rintro e w' ⟨rfl, rfl⟩
      exact ⟨g, off, cap, rfl, hroom, Laid.refl hbuf, id⟩
    · have hsome : ∀ j, j < cap → (w.cell? ⟨g, off + j, none⟩).isSome = true := by
        intro j hj
        by_cases hjn : j < n
        · have hj' : j < xs.length := by rw [hbuf.1]; exact hjn
          rw [hx j _ (List.getElem?_eq_getElem hj')]; rfl
        · exact (hsp j (by omega) hj).1
      have hcs : ∀ j u, ((List.range cap).map fun j => (w.cell? ⟨g, off + j, none⟩).getD undef)[j]? = some u → w.cell? ⟨g, off + j, none⟩ = some u := by
        intro j u hu
        have hj : j < cap := by have := (List.getElem?_eq_some_iff.1 hu).1; simpa using this
        rw [List.getElem?_map, List.getElem?_range hj] at hu
        simp at hu
        obtain ⟨q, hq⟩ := Option.isSome_iff_exists.1 (hsome j hj)
        rw [hq] at hu ⊢
        simpa using hu
      refine main (some ⟨g, off, none⟩) cap ((List.range cap).map fun j => (w.cell? ⟨g, off + j, none⟩).getD undef) rfl hnc (by omega) (by simp) ?_ ?_
      · exact run_firstCells_some (P := Tryd.prog) w.drew 1 cap ⟨g, off, none⟩ cap cap _ (by simp) (fun j u hu => by rw [Addr.add_lit]; exact hcs j u hu)
      · apply List.ext_getElem
        · rw [List.length_take, hbuf.1]; simp; omega
        · intro j h1 h2
          have hj : j < n := by rw [hbuf.1] at h2; exact h2
          rw [List.getElem_take]
          have := hx j _ (List.getElem?_eq_getElem h2)
          simp [this]

set_option maxHeartbeats 1000000 in
set_option maxRecDepth 100000 in
theorem put_warm (A : Option Addr) (L cd : Nat) (d : List Nat) (w : World) (base : Nat) {v : Value} {n : Nat} {xs : List Value} (hbuf : Buf w base v n xs) (hn : n ≤ 100000000) (hbase : base ≤ w.heap.size)
    (hr : Rd w w.heap.size A L (bys d)) (hd : ∀ c ∈ d, c < 256) (hL : L ≤ 1048576) (hap : ∀ g off, A = some ⟨g, off, none⟩ → 0 < L → v.ownBlock ≠ some g) (ht : TabAt w) :
    Calls Tryd.prog 10 #[v, .slice A L cd] w fun e w' => ∃ v', e = .returned (.tuple #[v', .int .i64 0]) ∧ Laid w base v w' v' (n + (12 + L)) (xs ++ bys (recB d)) ∧ (Warm w v → Warm w' v') := by
  obtain ⟨i0, hi, hz0, hz1, hz2⟩ := info_parts Tryd.info5
  have hdl : d.length = L := by have := hr.1; rwa [bys_len] at this
  obtain ⟨A0, c0, rfl, hnc0, _⟩ := hbuf.slice
  have hLI : decide ((1048576 : Int) < (L : Int)) = false := by simp; omega
  have HH := Lib.hid (headOf_any A L cd d w _ (Nat.le_refl _) hr hd (by omega) ht)
  have HD := Lib.hid hd
  have HAP := Lib.hid hap
  clear ht hd hap
  go_enter Tryd.func10, Tryd.ntmps10
  go_wp2_with fail
  refine HH.out.mono ?_
  rintro e w1 ⟨v1, rfl, hl1⟩
  have hb1 := hl1.below (Buf.nil w _) (Nat.le_refl _)
  have hs1 := hb1.size
  have hbuf1 := hbuf.below hb1 (fun k hk => (hbuf.lt k hk).2)
  have hblt := hbuf.lt
  have hr1 := hr.below hb1
  go_wp2_with fail
  refine (grow_warm (12 + L) w1 base hbuf1 (by omega) (by omega) (by omega)).mono ?_
  rintro e w2 ⟨g, off, c, rfl, hcap, hl2, hwm2⟩
  have hs2 := hl2.grown.size
  -- where things lie
  obtain ⟨A1, c1, rfl, _, _⟩ := hl1.buf.slice
  have hne1 : ∀ k, (Value.slice A1 12 c1).ownBlock = some k → some k ≠ (Value.slice A0 n c0).ownBlock := fun k hk e => by
    have h1 := (hl1.buf.lt k hk).1
    have h2 := (hblt k e.symm).2
    omega
  have hbh := hl1.buf.grown hl2.grown hne1
  have hg1 : ∀ k, (Value.slice A1 12 c1).ownBlock = some k → k ≠ g := fun k hk e => by
    subst e
    have h1 := hl1.buf.lt k hk
    rcases hl2.own with h | h
    · have := hblt k (by rw [← h]; rfl)
      omega
    · have := h k rfl
      omega
  have hcm : c ≤ maxLen := hl2.buf.cap_le
  have hin : (Tryd.prog.info? 5).map (·.size) = some 1 := by rw [hi]; simp [hz1]
  have hsp2 : ∀ j, n ≤ j → j < c → (w2.cell? ⟨g, off + j, none⟩).isSome = true ∧ w2.frozen? ⟨g, off + j, none⟩ = false := by
    rcases hl2.buf.2 with ⟨e, _⟩ | ⟨g', off', cap, e, _, _, _, _, _, hsp⟩
    · cases e
    · injection e with e1 e2 e3
      injection e1 with e1
      injection e1 with e4 e5
      subst e4; subst e5; subst e3
      exact hsp
  have hsl1 := fun wx => run_slice_h (P := Tryd.prog) wx 22 5 i0 Tryd.underlying22 hi hz1 (some ⟨g, off, none⟩) n c (n + 12 + L) (by omega) .i64 ((n : Int) + 12 + (L : Int)) (by omega)
  have hsl2 := fun wx => run_slice_l (P := Tryd.prog) wx 22 5 i0 Tryd.underlying22 hi hz1 (some ⟨g, off, none⟩) (n + 12 + L) c (n + 12) (by omega) .i64 ((n : Int) + 12) (by omega)
  have hsl3 := fun wx => run_slice_l (P := Tryd.prog) wx 22 5 i0 Tryd.underlying22 hi hz1 (some ⟨g, off, none⟩) (n + 12 + L) c n (by omega) .i64 (n : Int) rfl
  rw [show n + 12 + L - (n + 12) = L by omega] at hsl2
  rw [show n + 12 + L - n = 12 + L by omega, if_neg (by omega)] at hsl3
  have hcp1 : ∀ ty, (Builtin.copy_ #[22, 22] ty #[.slice (if c = n + 12 then some ⟨g, off, none⟩ else (some (⟨g, off, none⟩ : Addr)).map (·.add (n + 12))) L (c - (n + 12)), .slice A L cd]).run Tryd.prog w2 = .ok (goInt L) (w2.setCells g (off + (n + 12)) (bys d)) := by
    intro ty
    rcases Nat.eq_zero_or_pos L with h0 | h0
    · subst h0
      have : d = [] := List.eq_nil_of_length_eq_zero hdl
      subst this
      exact run_copy_none (P := Tryd.prog) w2 22 22 ty 5 _ _ _ _ _ _ Tryd.underlying22 hin (by simp)
    · obtain ⟨gd, od, rfl, hgd, hcell⟩ := hr1.2 h0
      have hnd : (Value.slice A0 n c0).ownBlock ≠ some gd := HAP.out gd od rfl h0
      have hblk : w2.heap[gd]? = w1.heap[gd]? := hl2.grown.block gd (by omega) (fun e => hnd e.symm)
      rw [if_neg (by omega)]
      have := run_copy_cells (P := Tryd.prog) w2 22 22 ty 5 g (off + (n + 12)) L (c - (n + 12)) ⟨gd, od, none⟩ L cd (bys d) Tryd.underlying22 hin (by rw [bys_len, hdl]; simp)
        (fun j u hu => by rw [Addr.add_lit, World.cell?_of_block (w := w1) hblk]; exact hcell j u hu)
        (fun j hj => by rw [Nat.add_assoc]; exact (hsp2 (n + 12 + j) (by omega) (by rw [bys_len, hdl] at hj; omega)).1)
        (fun j hj => by rw [Nat.add_assoc]; exact (hsp2 (n + 12 + j) (by omega) (by rw [bys_len, hdl] at hj; omega)).2) (bys_one _)
      rw [bys_len, hdl] at this
      simpa [Addr.add_lit] using this
  have hW3c : ∀ j u, (bys (hdr d))[j]? = some u → ∀ x y, A1 = some ⟨x, y, none⟩ → (w2.setCells g (off + (n + 12)) (bys d)).cell? ⟨x, y + j, none⟩ = some u := by
    rintro j u hu x y rfl
    rw [World.cell?_setCells_out g _ _ _ _ (fun e _ => absurd e (hg1 x rfl))]
    rcases hbh.2 with ⟨e, _⟩ | ⟨g', off', cap, e, _, _, _, _, hx, _⟩
    · cases e
    · injection e with e1
      injection e1 with e1
      injection e1 with e4 e5
      subst e4; subst e5
      exact hx j u hu
  have hcp2 : ∀ ty, (Builtin.copy_ #[22, 22] ty #[.slice ((some (⟨g, off, none⟩ : Addr)).map (·.add n)) (12 + L) (c - n), .slice A1 12 c1]).run Tryd.prog (w2.setCells g (off + (n + 12)) (bys d)) =
      .ok (goInt 12) ((w2.setCells g (off + (n + 12)) (bys d)).setCells g (off + n) (bys (hdr d))) := by
    intro ty
    have hA1 : ∃ x y, A1 = some ⟨x, y, none⟩ := by
      rcases hbh.2 with ⟨_, e⟩ | ⟨g', off', cap, e, _⟩
      · omega
      · injection e with e1
        exact ⟨g', off', e1⟩
    obtain ⟨x, y, rfl⟩ := hA1
    have hl12 : (bys (hdr d)).length = 12 := by rw [bys_len, hdr_len]
    have hx3 := hl2.buf.ahead (n + 12) (bys d) (by omega) (by rw [bys_len, hdl]; omega)
    have hsp3 : ∀ j, n ≤ j → j < c → ((w2.setCells g (off + (n + 12)) (bys d)).cell? ⟨g, off + j, none⟩).isSome = true ∧ (w2.setCells g (off + (n + 12)) (bys d)).frozen? ⟨g, off + j, none⟩ = false := by
      rcases hx3.2 with ⟨e, _⟩ | ⟨g', off', cap, e, _, _, _, _, _, hsp⟩
      · cases e
      · injection e with e1 e2 e3
        injection e1 with e1
        injection e1 with e4 e5
        subst e4; subst e5; subst e3
        exact hsp
    have := run_copy_cells (P := Tryd.prog) (w2.setCells g (off + (n + 12)) (bys d)) 22 22 ty 5 g (off + n) (12 + L) (c - n) ⟨x, y, none⟩ 12 c1 (bys (hdr d)) Tryd.underlying22 hin (by rw [hl12]; show 12 = min 12 (12 + L); omega)
      (fun j u hu => by rw [Addr.add_lit]; exact hW3c j u hu x y rfl)
      (fun j hj => by rw [Nat.add_assoc]; exact (hsp3 (n + j) (by omega) (by omega)).1)
      (fun j hj => by rw [Nat.add_assoc]; exact (hsp3 (n + j) (by omega) (by omega)).2) (bys_one _)
    rw [hl12] at this
    simpa [Addr.add_lit] using this
  have hfin := hl2.buf.laid2 (bys (hdr d)) (bys d) 12 (by rw [bys_len, hdr_len]) (by rw [bys_len, hdl]; omega)
  have hgr := (grownBy_setCells w2 g (off + (n + 12)) (bys d)).trans (grownBy_setCells _ g (off + n) (bys (hdr d)))
  rw [bys_len, hdl] at hfin
  have hlaid : Laid w base (.slice A0 n c0) ((w2.setCells g (off + (n + 12)) (bys d)).setCells g (off + n) (bys (hdr d))) (.slice (some ⟨g, off, none⟩) (n + 12 + L) c) (n + (12 + L)) (xs ++ bys (recB d)) := by
    rw [recB, bys_app, show n + (12 + L) = n + 12 + L by omega]
    exact Laid.before (grownBy_below hb1 _) (hl2.trans ⟨hfin, hgr, .inl rfl⟩)
  have hwm : Warm w (.slice A0 n c0) → Warm ((w2.setCells g (off + (n + 12)) (bys d)).setCells g (off + n) (bys (hdr d))) (.slice (some ⟨g, off, none⟩) (n + 12 + L) c) := by
    intro h g' o' n' c' e
    injection e with e1 e2 e3
    injection e1 with e1
    injection e1 with e4 e5
    subst e4; subst e5
    have h1 : Warm w1 (.slice A0 n c0) := by
      intro g2 o2 n2 c2 e
      obtain ⟨q1, q2⟩ := h g2 o2 n2 c2 e
      refine ⟨q1, fun o => ?_⟩
      rw [World.frozen?_of_block (w := w) (a := ⟨g2, o, none⟩) (hb1.block g2 (hblt g2 (by rw [e]; rfl)).2)]
      exact q2 o
    obtain ⟨q1, q2⟩ := hwm2 h1 g off n c rfl
    refine ⟨q1, fun o => ?_⟩
    rw [World.frozen?_setCells, World.frozen?_setCells]
    exact q2 o
  generalize hAd : (if c = n + 12 then some (⟨g, off, none⟩ : Addr) else (some (⟨g, off, none⟩ : Addr)).map (·.add (n + 12))) = Ad at *
  generalize hAe : (some (⟨g, off, none⟩ : Addr)).map (·.add n) = Ae at *
  generalize w2.setCells g (off + (n + 12)) (bys d) = W3 at *
  generalize W3.setCells g (off + n) (bys (hdr d)) = W4 at *
  clear hwm2 hfin hgr hW3c hsp2 hg1 hne1 hbh hAd hAe hl1 hl2 hr1 hbuf1 hblt
  unfold maxLen at hcm
  go_wp2_with (first
    | (with_reducible refine wpList_copy_by rfl (.tmp 30) (.tmp 31) 22 22 rfl rfl rfl (hcp1 _) ?_)
    | (with_reducible refine wpList_copy_by rfl (.tmp 35) (.tmp 36) 22 22 rfl rfl rfl (hcp2 _) ?_))
  go_ret2
  exact ⟨_, rfl, hlaid, hwm⟩
end Go.Proofs.YtahbhaphodgomabDoor
