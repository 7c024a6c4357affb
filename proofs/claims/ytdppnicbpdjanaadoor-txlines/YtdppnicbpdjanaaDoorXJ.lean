/- For the law on numbers: a list of texts that came in; a transaction's copy without witnesses; stores into rows. -/
import Derived.Test.YtdppnicbpdjanaaDoorXI
import Derived.Test.YtdppnicbpdjanaaDoorZ2
namespace Go.Proofs.YtdppnicbpdjanaaDoor
set_option linter.unusedSimpArgs false
set_option linter.unusedVariables false
open Go.Joins Go.RowKit Go.ChangeShapes Go.WideShapes Go.Deep

theorem open_strsP {H : Type} {enc : TypeId × Value → H} {W : World} {b0 : Nat} {r : Reach} {v : Value} {d : DataW H} {ps : List MemPlace}
    (hv : Value.okWide Tryd.prog W r b0 27 v) (hd : DataW.Trod enc Tryd.prog W 0 (fun _ => true) true 27 v d ps) :
    ∃ (A : Option Addr) (c : Nat) (L : List (List Nat)), v = .slice A L.length c ∧ Rd W W.heap.size A L.length (strs L) ∧ (∀ p ∈ L, B8 p ∧ (p.length : Int) ≤ 9223372036854775807) ∧ L.length ≤ c ∧ (c : Int) ≤ 9223372036854775807 := by
  obtain ⟨A, n, c, rfl⟩ := okWide_slice Tryd.underlying27 hv
  obtain ⟨fuel, hf⟩ := hd
  obtain ⟨A', c', l, e, h1, h2, h3, h4⟩ := open_strs hf
  simp [Value.cells] at e
  obtain ⟨rfl, rfl, rfl⟩ := e
  exact ⟨A, c, l, rfl, h1, h2, h3, h4⟩
theorem RdN.tch {X Y : World} {B s n g' : Nat} {A : Option Addr} {xs : List Value} (h : RdN X B s A n xs) (t : Tch X Y [g']) (hB : B ≤ X.heap.size) (hne : ∀ g off, A = some ⟨g, off, none⟩ → g ≠ g') : RdN Y B s A n xs :=
  ⟨h.len, fun h0 => by
    obtain ⟨g, off, e, hg, hc⟩ := h.at_ h0
    refine ⟨g, off, e, hg, fun j u hu => ?_⟩
    rw [← hc j u hu]
    simp only [World.cell?]
    rw [t.block _ (by omega) (by simp; exact hne g off e)]⟩
theorem range_tch {X Y : World} {g g' : Nat} {C : List Value} (h : X.rangeAt g 0 C) (t : Tch X Y [g']) (hg : g < X.heap.size) (hne : g ≠ g') : Y.rangeAt g 0 C := fun j u hu => by
  rw [← h j u hu]
  simp only [World.cell?]
  rw [t.block _ hg (by simpa using hne)]
theorem range_set {X : World} {g k : Nat} {C : List Value} (h : X.rangeAt g 0 C) (hk : k < C.length) (v : Value) : (X.setCell ⟨g, k, none⟩ v).rangeAt g 0 (C.set k v) := fun j u hu => by
  rw [List.getElem?_set] at hu
  by_cases e : k = j
  · subst e
    rw [if_pos rfl, if_pos hk] at hu
    injection hu with hu
    subst hu
    have := h k _ (List.getElem?_eq_getElem hk)
    rw [Nat.zero_add] at this ⊢
    exact World.cell?_setCell_same _ _ _ this
  · rw [if_neg e] at hu
    have := h j u hu
    rw [Nat.zero_add] at this ⊢
    rw [set_other X g k j v (by omega)]
    exact this
theorem Bx4.rg {w : World} {g : Nat} {a b c d : Value} (h : Bx4 w g a b c d) : w.rangeAt g 0 [a, b, c, d] := fun j u hu => by
  rw [Nat.zero_add]
  match j, hu with
  | 0, hu => simp at hu; subst hu; exact h.c0
  | 1, hu => simp at hu; subst hu; exact h.c1
  | 2, hu => simp at hu; subst hu; exact h.c2
  | 3, hu => simp at hu; subst hu; exact h.c3
/-- An input without its witness. -/
def bareM (x : MIn) : MIn := ⟨bare x.p, none, 0⟩
theorem bareM_cells {x : MIn} (h : x.p.id.length = 32) : x.cells.set 35 (.slice none 0 0) = (bareM x).cells := by
  have hp : (bys x.p.id).length = 32 := by rw [bys_len]; exact h
  simp [bareM, bare, MIn.cells, inC, List.set_append, hp]
theorem bareM_ok {x : TIn} (h : x.ok) : (bare x).ok := ⟨h.id, h.idb, h.out, h.sc, h.scl, h.seq, fun p hp => by cases hp⟩
theorem bareM_p (l : List MIn) : (l.map bareM).map (·.p) = (l.map (·.p)).map bare := by simp [List.map_map, bareM, Function.comp_def]
/-- .. with another one. -/
theorem wit_cells {x : MIn} (h : x.p.id.length = 32) (A : Option Addr) (L : List (List Nat)) (c : Nat) : x.cells.set 35 (.slice A L.length c) = MIn.cells ⟨{ x.p with wit := L }, A, c⟩ := by
  have hp : (bys x.p.id).length = 32 := by rw [bys_len]; exact h
  simp [MIn.cells, inC, List.set_append, hp]

/-- While the copy without witnesses is laid: its box is block gt. -/
structure BaS (W wi : World) (gt : Nat) (ver : Int) (lk : Nat) (vI : Value) (LI : List MIn) (vO : Value) : Prop where
  b : Below gt W wi
  box : Bx4 wi gt (.int .i32 ver) vI vO (.int .u32 (lk : Int))
  oi : wi.ownsRow (gt + 1) 38 36 vI LI.length (LI.flatMap MIn.cells)
  gw : gt ≤ W.heap.size
section
variable {W wi wj : World} {gt : Nat} {ver : Int} {lk : Nat} {vI vO : Value} {LI : List MIn}
theorem BaS.more (h : BaS W wi gt ver lk vI LI vO) (t : Below wi.heap.size wi wj) : BaS W wj gt ver lk vI LI vO :=
  ⟨h.b.trans (t.mono (by have := h.b.size; have := h.gw; omega)), h.box.keep (t.block _ h.box.lt), ownN_below h.oi t (fun k hk => (h.oi.lt k hk).2), h.gw⟩
theorem BaS.addIn (h : BaS W wi gt ver lk vI LI vO) (x : MIn) (hx : x.cells.length = 36) (hl : LI.length ≤ 100000) :
    ∃ v6 w6, (Builtin.append_ #[22, 22] 22 #[vI, .slice (some ⟨wi.heap.size, 0, none⟩) 1 1]).run Tryd.prog (wi.alloc (.cells x.cells.toArray 38)) = .ok v6 w6 ∧
      w6.cell? ⟨gt, 1, none⟩ = some vI ∧ w6.frozen? ⟨gt, 1, none⟩ = false ∧ BaS W (w6.setCell ⟨gt, 1, none⟩ v6) gt ver lk v6 (LI ++ [x]) vO := by
  have hbl : gt + 1 ≤ wi.heap.size := h.box.lt
  obtain ⟨v6, w6, q1, q2, q3, q4⟩ := app_in wi (gt + 1) vI LI.length _ h.oi x.cells hx inC_one (by omega) hbl
  have hlt := h.oi.lt
  have t1 : Tch wi w6 vI.ownBlock.toList := Tch.of_grown q3 (fun k hk => by rw [hk]; simp)
  have hout : ∀ k, k ≤ gt → k ∉ vI.ownBlock.toList := fun k hk hm => by
    simp at hm
    have := (hlt k hm).1
    omega
  have hb6 := h.box.keep (t1.block gt h.box.lt (hout gt (Nat.le_refl _)))
  have t2 : Tch w6 (w6.setCell ⟨gt, 1, none⟩ v6) [gt] := Tch.of_grown (grown_setCell _ _ _) (by simp)
  have hn6 : ∀ k, v6.ownBlock = some k → gt + 1 ≤ k := fun k hk => (q2.lt k hk).1
  have hgw := h.gw
  have hbs := h.b.size
  refine ⟨v6, w6, q1, hb6.c1, hb6.cold 1, ?_, hb6.set1 v6, ?_, h.gw⟩
  · exact (h.b.trans (t1.below (by omega) (fun i hi => by simp at hi; have := (hlt i hi).1; omega))).trans (t2.below (by have := t1.size; omega) (by simp))
  · rw [List.length_append, List.flatMap_append]
    refine ownN_keep (xs := LI.flatMap MIn.cells ++ [x].flatMap MIn.cells) (by simpa using q2) (fun k hk => t2.block k (q2.lt k hk).2 (by have := hn6 k hk; simp; omega))
/-- A row's copy: append to an empty literal. -/
theorem copy_row (w : World) {B n : Nat} {A : Option Addr} {c : Nat} {xs : List Value} (hr : RdN w B 36 A n xs) (hB : B ≤ w.heap.size) (h1 : ∀ u ∈ xs, u.oneCell' = true) (hn : (n : Int) ≤ 1000000) :
    ∃ v' w', (Builtin.append_ #[22, 22] 22 #[.slice (some ⟨w.heap.size, 0, none⟩) 0 0, .slice A n c]).run Tryd.prog (w.alloc (.cells #[] 38)) = .ok v' w' ∧ w'.ownsRow w.heap.size 38 36 v' n xs ∧ Below w.heap.size w w' := by
  obtain ⟨i0, hi, hz0, hz1, hz2⟩ := infoIn_parts Tryd.infoIn
  have hown : (w.alloc (.cells #[] 38)).ownsRow w.heap.size 38 36 (.slice (some ⟨w.heap.size, 0, none⟩) 0 0) 0 [] := by
    have := World.ownsRow_lit (base := w.heap.size) (e := 38) (size := 36) w #[] 0 (by simp) (by unfold maxLen; omega) rfl
    simpa using this
  have hb : Below w.heap.size w (w.alloc (.cells #[] 38)) := (Below.refl _ _).alloc (Nat.le_refl _) _
  obtain ⟨v', w', q1, q2, q3, q4⟩ := run_appN (P := Tryd.prog) (w.alloc (.cells #[] 38)) w.heap.size 22 22 38 i0 _ 36 88 Tryd.underlying22 hi hz0 hz1 hz2 (by simp [Value.cells, ZIN_len]) (by omega) hown (hr.below (hb.mono hB)) (c := c) h1 (by unfold maxLen; omega) (by omega) (by simp)
  refine ⟨v', w', q1, by simpa using q2, hb.trans ?_⟩
  exact ⟨q3.os, q3.tape, q3.output, q3.size, fun k hk => q3.block k (by simp; omega) (fun e => by simp [Value.ownBlock] at e; omega)⟩
/-- A store into a row's input. -/
theorem row_wit {w : World} {base n : Nat} {v : Value} {LI : List MIn} (h : w.ownsRow base 38 36 v n (LI.flatMap MIn.cells)) (hid : ∀ y ∈ LI, y.cells.length = 36) (hn : LI.length = n) (x : MIn) (hx : LI[0]? = some x) (h32 : x.p.id.length = 32) (A : Option Addr) (L : List (List Nat)) (c : Nat) :
    ∃ gi c', v = .slice (some ⟨gi, 0, none⟩) n c' ∧ base ≤ gi ∧ gi < w.heap.size ∧ (w.cell? ⟨gi, 35, none⟩).isSome = true ∧ w.frozen? ⟨gi, 35, none⟩ = false ∧
      (w.setCell ⟨gi, 35, none⟩ (.slice A L.length c)).ownsRow base 38 36 v n ((LI.set 0 ⟨{ x.p with wit := L }, A, c⟩).flatMap MIn.cells) := by
  have hi : 0 < LI.length := (List.getElem?_eq_some_iff.1 hx).1
  have hfl := flat_len MIn.cells 36 LI hid
  have hj : 35 < LI.length * 36 := by omega
  have hown := h
  rcases hown.2 with ⟨_, h0⟩ | ⟨gi, c', cur, hv, hb, hgi, hnc, hcm, hcs, htk⟩
  · omega
  · have hlt := (Array.getElem?_eq_some_iff.1 hgi).1
    rw [hv] at hown
    have hcell := hown.cellAt 35 (by omega)
    have hfr := hown.frozenAt 35
    have hst := hown.stored 35 (.slice A L.length c)
    have hst2 := flat_set MIn.cells 36 35 (.slice A L.length c) (by omega) LI hid 0 x _ hx (wit_cells h32 A L c)
    rw [Nat.zero_mul, Nat.zero_add] at hst2
    rw [hst2] at hst
    refine ⟨gi, c', hv, hb, hlt, ?_, hfr, ?_⟩
    · rw [hcell, List.getElem?_eq_getElem (by rw [hfl]; exact hj)]; rfl
    · rw [hv]; exact hst.1
end
end Go.Proofs.YtdppnicbpdjanaaDoor
