/- For the law on transactions one behind the other: a list of transactions that came in, rows of transactions. -/
import Derived.Test.YtdppnicbpdjanaaDoorXJ
import Derived.Test.YtdppnicbpdjanaaDoorZ3
import Derived.Test.YtdppnicbpdjanaaDoorZ4
namespace Go.Proofs.YtdppnicbpdjanaaDoor
set_option linter.unusedSimpArgs false
set_option linter.unusedVariables false
open Go.Joins Go.RowKit Go.ChangeShapes Go.WideShapes Go.Deep

def MTx.cells (t : MTx) : List Value := [.int .i32 t.ver, .slice t.ia t.ins.length t.ic, .slice t.oa t.outs.length t.oc, .int .u32 (t.lock : Int)]
theorem MTx.len (t : MTx) : t.cells.length = 4 := rfl
theorem MTx.one (t : MTx) : ∀ u ∈ t.cells, u.oneCell' = true := by
  intro u hu
  simp only [MTx.cells, List.mem_cons, List.not_mem_nil, or_false] at hu
  rcases hu with rfl | rfl | rfl | rfl <;> rfl
theorem Tryd.infoTx : (Tryd.prog.info? 26).map (fun i => (i.zero, i.size, i.bytes)) = some (some (.agg #[.int .i32 0, .slice none 0 0, .slice none 0 0, .int .u32 0]), 4, 64) := by kernel_rfl
theorem infoTx_parts {i : Option TypeInfo} (h : i.map (fun i => (i.zero, i.size, i.bytes)) = some (some (Value.agg #[.int .i32 0, .slice none 0 0, .slice none 0 0, .int .u32 0]), 4, 64)) : ∃ i0, i = some i0 ∧ i0.zero = some (Value.agg #[.int .i32 0, .slice none 0 0, .slice none 0 0, .int .u32 0]) ∧ i0.size = 4 ∧ i0.bytes = 64 := by
  cases i with
  | none => cases h
  | some i0 => simp at h; exact ⟨i0, rfl, h.1, h.2.1, h.2.2⟩
theorem lit_tx (w : World) (t : MTx) (parts : Array (Nat × Value)) (hp : parts.toList = [(0, .agg t.cells.toArray)]) :
    (Instr.buildSlice 44 1 parts).run Tryd.prog w = .ok (.slice (some ⟨w.heap.size, 0, none⟩) 1 1) (w.alloc (.cells t.cells.toArray 26)) := by
  obtain ⟨i0, hi, hz0, hz1, hz2⟩ := infoTx_parts Tryd.infoTx
  have := run_buildSlice_rows (P := Tryd.prog) w 44 26 i0 _ 4 Tryd.underlying44 hi hz0 hz1 (by omega) 1 [t.cells] rfl (by omega) (by simp [MTx.cells]) (by omega) parts hp
  simpa using this
theorem app_tx (w : World) (base : Nat) (v : Value) (n : Nat) (xs : List Value) (hown : w.ownsRow base 26 4 v n xs) (t : MTx) (hn : (n : Int) ≤ 1000000) (hbase : base ≤ w.heap.size) :
    ∃ v' w', (Builtin.append_ #[44, 44] 44 #[v, .slice (some ⟨w.heap.size, 0, none⟩) 1 1]).run Tryd.prog (w.alloc (.cells t.cells.toArray 26)) = .ok v' w' ∧ w'.ownsRow base 26 4 v' (n + 1) (xs ++ t.cells) ∧ w.grownBy w' v.ownBlock ∧ (v'.ownBlock = v.ownBlock ∨ ∀ k, v'.ownBlock = some k → w.heap.size ≤ k) := by
  obtain ⟨i0, hi, hz0, hz1, hz2⟩ := infoTx_parts Tryd.infoTx
  obtain ⟨v', w', q1, q2, q3, q4⟩ := run_appN (P := Tryd.prog) (w.alloc (.cells t.cells.toArray 26)) base 44 44 26 i0 _ 4 64 Tryd.underlying44 hi hz0 hz1 hz2 rfl (by omega) (hown.alloc _) (RdN.new w 4 1 t.cells 26 (0, 0) rfl) (c := 1) t.one (by unfold maxLen; omega) (by omega) (by simp; omega)
  refine ⟨v', w', q1, q2, (World.grownBy_alloc w _ _).trans q3, q4.imp id fun e k hk => ?_⟩
  have := e k hk
  simp at this
  omega
/-- A list of transactions in memory. -/
structure TxsAt (w : World) (B : Nat) (A : Option Addr) (c : Nat) (T : List MTx) : Prop where
  row : RdN w B 4 A T.length (T.flatMap MTx.cells)
  at_ : ∀ t ∈ T, TxAt w B t
  lc : T.length ≤ c
  cm : (c : Int) ≤ 9223372036854775807
theorem TxsAt.below {w w' : World} {B : Nat} {A : Option Addr} {c : Nat} {T : List MTx} (h : TxsAt w B A c T) (b : Below B w w') : TxsAt w' B A c T := ⟨h.row.below b, fun t ht => (h.at_ t ht).below b, h.lc, h.cm⟩
theorem TxsAt.elem {w : World} {B : Nat} {A : Option Addr} {c : Nat} {T : List MTx} (h : TxsAt w B A c T) (i : Nat) (t : MTx) (ht : T[i]? = some t) : ∃ g off, A = some ⟨g, off, none⟩ ∧ g < B ∧ w.rangeAt g (off + i * 4) t.cells := by
  have hi : i < T.length := (List.getElem?_eq_some_iff.1 ht).1
  obtain ⟨g, off, e, hg, hr⟩ := h.row.elem i hi
  refine ⟨g, off, e, hg, ?_⟩
  rwa [flat_elem MTx.cells 4 T (fun _ _ => rfl) i t ht] at hr
theorem cells_agg {t : MTx} : t.val = .agg t.cells.toArray := rfl
section
variable {H : Type} {enc : TypeId × Value → H} {P : Program} {w : World} {base : Nat} {sp : Nat → Bool} {held : Bool} {fuel : Nat} {t : TypeId} {cs : List Value} {x : DataW H × List MemPlace}
theorem cells_g4 {f0 f1 f2 f3 : Field} (hs : P.underlying t = some (.struct #[f0, f1, f2, f3])) (hp : ([f0, f1, f2, f3].map fun f => (f.offset, P.cellsOf f.type)) = [(0, 1), (1, 1), (2, 1), (3, 1)])
    (h : DataW.trod enc P w base sp held fuel t cs = some x) :
    ∃ (y0 y1 y2 y3 : DataW H × List MemPlace) (n : Nat), DataW.trod enc P w base sp held n f0.type ((cs.drop 0).take 1) = some y0 ∧ DataW.trod enc P w base sp held n f1.type ((cs.drop 1).take 1) = some y1 ∧
      DataW.trod enc P w base sp held n f2.type ((cs.drop 2).take 1) = some y2 ∧ DataW.trod enc P w base sp held n f3.type ((cs.drop 3).take 1) = some y3 := by
  obtain ⟨ys, n, _, _, hcl, hyl, hf⟩ := DataW.trod_struct hs h
  simp only [List.map_cons, List.map_nil, List.cons.injEq, Prod.mk.injEq, and_true] at hp
  obtain ⟨⟨a0, b0⟩, ⟨a1, b1⟩, ⟨a2, b2⟩, ⟨a3, b3⟩⟩ := hp
  have h0 := hf 0 f0 rfl
  have h1 := hf 1 f1 rfl
  have h2 := hf 2 f2 rfl
  have h3 := hf 3 f3 rfl
  rw [a0, b0] at h0
  rw [a1, b1] at h1
  rw [a2, b2] at h2
  rw [a3, b3] at h3
  match ys, hyl with
  | [y0, y1, y2, y3], _ => exact ⟨y0, y1, y2, y3, n, h0, h1, h2, h3⟩
end
set_option maxRecDepth 100000 in
theorem open_txc {H : Type} {enc : TypeId × Value → H} {W : World} {base : Nat} {sp : Nat → Bool} {held : Bool} {fuel : Nat} {cs : List Value} {x : DataW H × List MemPlace} (h : DataW.trod enc Tryd.prog W base sp held fuel 26 cs = some x) (hl : cs.length = 4) :
    ∃ t : MTx, TxAt W W.heap.size t ∧ cs = t.cells := by
  obtain ⟨y0, y1, y2, y3, n, h0, h1, h2, h3⟩ := cells_g4 Tryd.underlying26 (by kernel_rfl) h
  match cs, hl with
  | [v0, v1, v2, v3], _ =>
    replace h0 : DataW.trod enc Tryd.prog W base sp held n _ [v0] = some y0 := h0
    replace h1 : DataW.trod enc Tryd.prog W base sp held n _ [v1] = some y1 := h1
    replace h2 : DataW.trod enc Tryd.prog W base sp held n _ [v2] = some y2 := h2
    replace h3 : DataW.trod enc Tryd.prog W base sp held n _ [v3] = some y3 := h3
    obtain ⟨s0, e0, _, m0⟩ := DataW.trod_int Tryd.underlying21 h0
    obtain ⟨s3, e3, _, m3⟩ := DataW.trod_int Tryd.underlying24 h3
    simp [Lit.wf, IntKind.min, IntKind.max, IntKind.signed, IntKind.bits] at m0 m3
    injection e0 with e0
    injection e3 with e3
    subst e0; subst e3
    obtain ⟨lk, rfl⟩ := Int.eq_ofNat_of_zero_le m3.1
    obtain ⟨A1, n1, c1, css1, f1, hl1, hall1, hr1, a1, a2⟩ := open_sliceG (s := 36) (T := fun cs => ∃ m : MIn, InAt W W.heap.size m ∧ cs = m.cells) Tryd.underlying22 (by kernel_rfl) (by omega) (fun fuel cs x h hl => open_in h hl) h1
    obtain ⟨A2, n2, c2, css2, f2, hl2, hall2, hr2, a3, a4⟩ := open_sliceG (s := 2) (T := fun cs => ∃ o : TOut, o.ok ∧ cs = o.cells) Tryd.underlying23 (by kernel_rfl) (by omega) (fun fuel cs x h hl => open_out h hl) h2
    injection f1 with f1
    injection f2 with f2
    subst f1; subst f2
    obtain ⟨L1, k1, k2⟩ := all_of (P := fun (m : MIn) cs => InAt W W.heap.size m ∧ cs = m.cells) css1 (fun c hc => (hall1 c hc).1)
    obtain ⟨L2, k3, k4⟩ := all_of (P := fun (o : TOut) cs => o.ok ∧ cs = o.cells) css2 (fun c hc => (hall2 c hc).1)
    have g1 := flat_of2 MIn.cells L1 css1 k1 (fun i x c hx hc => (k2 i x c hx hc).2)
    have g2 := flat_of2 TOut.cells L2 css2 k3 (fun i x c hx hc => (k4 i x c hx hc).2)
    have hn1 : n1 = L1.length := by omega
    have hn2 : n2 = L2.length := by omega
    subst hn1; subst hn2
    rw [g1] at hr1
    rw [g2] at hr2
    unfold maxLen at a2 a4
    refine ⟨⟨s0, L1, A1, c1, L2, A2, c2, lk⟩, ⟨hr1, hr2, ?_, ?_, m0.1, m0.2, by simp only; omega, a1, by simp only; omega, a3, by simp only; omega⟩, rfl⟩
    · intro x hx
      obtain ⟨i, hi⟩ := mem_at hx
      have hil : i < css1.length := by rw [← k1]; exact (List.getElem?_eq_some_iff.1 hi).1
      exact (k2 i x _ hi (List.getElem?_eq_getElem hil)).1
    · intro x hx
      obtain ⟨i, hi⟩ := mem_at hx
      have hil : i < css2.length := by rw [← k3]; exact (List.getElem?_eq_some_iff.1 hi).1
      exact (k4 i x _ hi (List.getElem?_eq_getElem hil)).1
set_option maxRecDepth 100000 in
theorem open_txs {H : Type} {enc : TypeId × Value → H} {W : World} {b0 : Nat} {r : Reach} {v : Value} {d : DataW H} {ps : List MemPlace}
    (hv : Value.okWide Tryd.prog W r b0 44 v) (hd : DataW.Trod enc Tryd.prog W 0 (fun _ => true) true 44 v d ps) :
    ∃ (A : Option Addr) (c : Nat) (T : List MTx), v = .slice A T.length c ∧ TxsAt W W.heap.size A c T := by
  obtain ⟨A, n, c, rfl⟩ := okWide_slice Tryd.underlying44 hv
  obtain ⟨fuel, hf⟩ := hd
  obtain ⟨A', n', c', css, e, hl, hall, hr, h1, h2⟩ := open_sliceG (s := 4) (T := fun cs => ∃ t : MTx, TxAt W W.heap.size t ∧ cs = t.cells) Tryd.underlying44 (by kernel_rfl) (by omega) (fun fuel cs x h hl => open_txc h hl) hf
  simp [Value.cells] at e
  obtain ⟨rfl, rfl, rfl⟩ := e
  obtain ⟨T, k1, k2⟩ := all_of (P := fun (t : MTx) cs => TxAt W W.heap.size t ∧ cs = t.cells) css (fun c hc => (hall c hc).1)
  have g1 := flat_of2 MTx.cells T css k1 (fun i x c hx hc => (k2 i x c hx hc).2)
  obtain rfl : n = T.length := by omega
  rw [g1] at hr
  unfold maxLen at h2
  refine ⟨A, c, T, rfl, hr, ?_, h1, by omega⟩
  intro t ht
  obtain ⟨i, hi⟩ := mem_at ht
  have hil : i < css.length := by rw [← k1]; exact (List.getElem?_eq_some_iff.1 hi).1
  exact (k2 i t _ hi (List.getElem?_eq_getElem hil)).1
end Go.Proofs.YtdppnicbpdjanaaDoor
