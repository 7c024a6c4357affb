/- A transaction that came in, opened. -/
import Derived.Test.YtkdkihacpjhgmaaYB
import Derived.Lib.SmallJoins
import Derived.OpenShut
import Derived.ShutString
import Derived.Deep.Fields
namespace Go.Proofs.Ytkdkihacpjhgmaa
set_option linter.unusedSimpArgs false
set_option linter.unusedVariables false
open Go.Joins Go.RowKit Go.ChangeShapes Go.WideShapes Go.Deep

section
variable {H : Type} {enc : TypeId × Value → H} {P : Program} {w : World} {base : Nat} {sp : Nat → Bool} {held : Bool} {fuel : Nat} {t : TypeId} {cs : List Value} {x : DataW H × List MemPlace}
theorem cells_f2 {f0 f1 : Field} (s0 s1 : Nat) (hs : P.underlying t = some (.struct #[f0, f1])) (hp : ([f0, f1].map fun f => (f.offset, P.cellsOf f.type)) = [(0, s0), (s0, s1)])
    (h : DataW.trod enc P w base sp held fuel t cs = some x) :
    ∃ (y0 y1 : DataW H × List MemPlace) (n : Nat), DataW.trod enc P w base sp held n f0.type ((cs.drop 0).take s0) = some y0 ∧ DataW.trod enc P w base sp held n f1.type ((cs.drop s0).take s1) = some y1 := by
  obtain ⟨ys, n, _, _, hcl, hyl, hf⟩ := DataW.trod_struct hs h
  simp only [List.map_cons, List.map_nil, List.cons.injEq, Prod.mk.injEq, and_true] at hp
  obtain ⟨⟨a0, b0⟩, ⟨a1, b1⟩⟩ := hp
  have h0 := hf 0 f0 rfl
  have h1 := hf 1 f1 rfl
  rw [a0, b0] at h0
  rw [a1, b1] at h1
  match ys, hyl with
  | [y0, y1], _ => exact ⟨y0, y1, n, h0, h1⟩
theorem cells_f4 {f0 f1 f2 f3 : Field} (hs : P.underlying t = some (.struct #[f0, f1, f2, f3])) (hp : ([f0, f1, f2, f3].map fun f => (f.offset, P.cellsOf f.type)) = [(0, 33), (33, 1), (34, 1), (35, 1)])
    (h : DataW.trod enc P w base sp held fuel t cs = some x) :
    ∃ (y0 y1 y2 y3 : DataW H × List MemPlace) (n : Nat), DataW.trod enc P w base sp held n f0.type ((cs.drop 0).take 33) = some y0 ∧ DataW.trod enc P w base sp held n f1.type ((cs.drop 33).take 1) = some y1 ∧
      DataW.trod enc P w base sp held n f2.type ((cs.drop 34).take 1) = some y2 ∧ DataW.trod enc P w base sp held n f3.type ((cs.drop 35).take 1) = some y3 := by
  obtain ⟨ys, n, _, _, hcl, hyl, hf⟩ := DataW.trod_struct hs h
  simp only [List.map_cons, List.map_nil, List.cons.injEq, Prod.mk.injEq, and_true] at hp
  obtain ⟨⟨a0, b0⟩, ⟨a1, b1⟩, ⟨a2, b2⟩, ⟨a3, b3⟩⟩ := hp
  have h0 := hf 0 f0 rfl
  have h1 := hf 1 f1 rfl
  have h2 := hf 2 f2 rfl
  have h3 := hf 3 f3 rfl
  rw [a0, b0] at h0
  rw [a1, b1] at h1
  rw [a2, b2] at h2
  rw [a3, b3] at h3
  match ys, hyl with
  | [y0, y1, y2, y3], _ => exact ⟨y0, y1, y2, y3, n, h0, h1, h2, h3⟩
end

theorem all_of {α : Type} {P : α → List Value → Prop} (css : List (List Value)) (h : ∀ c ∈ css, ∃ x, P x c) : ∃ L : List α, L.length = css.length ∧ ∀ (i : Nat) (x : α) (c : List Value), L[i]? = some x → css[i]? = some c → P x c := by
  induction css with
  | nil => exact ⟨[], rfl, by simp⟩
  | cons c r ih =>
    obtain ⟨L, e1, e2⟩ := ih (fun d hd => h d (by simp [hd]))
    obtain ⟨x, hx⟩ := h c (by simp)
    refine ⟨x :: L, by simp [e1], ?_⟩
    intro i y d hy hd
    cases i with
    | zero => simp at hy hd; subst hy; subst hd; exact hx
    | succ i => exact e2 i y d (by simpa using hy) (by simpa using hd)
theorem flat_of2 {α : Type} (f : α → List Value) : ∀ (L : List α) (css : List (List Value)), L.length = css.length → (∀ (i : Nat) (x : α) (c : List Value), L[i]? = some x → css[i]? = some c → c = f x) → css.flatten = L.flatMap f
  | [], [], _, _ => rfl
  | [], c :: r, h, _ => by simp at h
  | x :: L, [], h, _ => by simp at h
  | x :: L, c :: r, h, he => by
    rw [List.flatten_cons, List.flatMap_cons, he 0 x c rfl rfl, flat_of2 f L r (by simpa using h) (fun i y d hy hd => he (i + 1) y d (by simpa using hy) (by simpa using hd))]
theorem flat_strs : ∀ (l : List (List Nat)), l.flatMap (fun p => [Value.string (strB p)]) = strs l
  | [] => rfl
  | p :: r => by rw [List.flatMap_cons, flat_strs r]; rfl
theorem mem_at {α : Type} {L : List α} {x : α} (h : x ∈ L) : ∃ i : Nat, L[i]? = some x := by
  obtain ⟨i, hi, e⟩ := List.mem_iff_getElem.1 h
  exact ⟨i, by rw [List.getElem?_eq_getElem hi, e]⟩

set_option maxRecDepth 100000 in
theorem open_strs {H : Type} {enc : TypeId × Value → H} {W : World} {base : Nat} {sp : Nat → Bool} {held : Bool} {fuel : Nat} {cs0 : List Value} {x : DataW H × List MemPlace} (h : DataW.trod enc Try.prog W base sp held fuel 56 cs0 = some x) :
    ∃ (A : Option Addr) (c : Nat) (l : List (List Nat)), cs0 = [.slice A l.length c] ∧ Rd W W.heap.size A l.length (strs l) ∧ (∀ p ∈ l, B8 p ∧ (p.length : Int) ≤ 9223372036854775807) ∧ l.length ≤ c ∧ (c : Int) ≤ 9223372036854775807 := by
  obtain ⟨A, n, c, css, e, hl, hall, hr, h1, h2⟩ := open_sliceG (s := 1) (T := fun cs => ∃ p : List Nat, (B8 p ∧ (p.length : Int) ≤ 9223372036854775807) ∧ cs = [.string (strB p)]) Try.underlying56 (by kernel_rfl) (by omega) (fun fuel cs x h hl => by
    match cs, hl with
    | [c0], _ =>
      obtain ⟨s0, e0, _, m0⟩ := DataW.trod_string Try.underlying9 h
      injection e0 with e0
      subst e0
      obtain ⟨b0, rfl, hb0⟩ := str_of s0
      rw [strB_size] at m0
      unfold maxLen at m0
      exact ⟨b0, ⟨hb0, by omega⟩, rfl⟩) h
  obtain ⟨l, e1, e2⟩ := all_of (P := fun (p : List Nat) cs => (B8 p ∧ (p.length : Int) ≤ 9223372036854775807) ∧ cs = [.string (strB p)]) css (fun c hc => (hall c hc).1)
  have hfl : css.flatten = l.flatMap (fun p => [.string (strB p)]) := flat_of2 _ l css e1 (fun i x c hx hc => (e2 i x c hx hc).2)
  have hst : css.flatten = strs l := by rw [hfl]; exact flat_strs l
  have hn : n = l.length := by omega
  subst hn
  unfold maxLen at h2
  refine ⟨A, c, l, e, ?_, ?_, h1, by omega⟩
  · rw [← hst]
    exact ⟨by have := hr.len; omega, hr.at_⟩
  · intro p hp
    obtain ⟨i, hi⟩ := mem_at hp
    have hil : i < css.length := by rw [← e1]; exact (List.getElem?_eq_some_iff.1 hi).1
    exact (e2 i p _ hi (List.getElem?_eq_getElem hil)).1

set_option maxRecDepth 100000 in
theorem open_in {H : Type} {enc : TypeId × Value → H} {W : World} {base : Nat} {sp : Nat → Bool} {held : Bool} {fuel : Nat} {cs : List Value} {x : DataW H × List MemPlace} (h : DataW.trod enc Try.prog W base sp held fuel 58 cs = some x) (hl : cs.length = 36) :
    ∃ m : MIn, InAt W W.heap.size m ∧ cs = m.cells := by
  obtain ⟨y0, y1, y2, y3, n, h0, h1, h2, h3⟩ := cells_f4 Try.underlying58 (by kernel_rfl) h
  obtain ⟨z0, z1, n', g0, g1⟩ := cells_f2 32 1 Try.underlying55 (by kernel_rfl) h0
  obtain ⟨id, e0, idl, idb⟩ := open_bys_cells Try.underlying53 Try.underlying5 (by kernel_rfl) (by kernel_rfl) g0
  obtain ⟨o, e1, _, m1⟩ := DataW.trod_int Try.underlying24 g1
  obtain ⟨s0, e2, _, m2⟩ := DataW.trod_string Try.underlying9 h1
  obtain ⟨q, e3, _, m3⟩ := DataW.trod_int Try.underlying24 h2
  obtain ⟨A, c, l, e4, hr, hb, hn1, hn2⟩ := open_strs h3
  simp [Lit.wf, IntKind.min, IntKind.max, IntKind.signed, IntKind.bits] at m1 m3
  obtain ⟨o', rfl⟩ := Int.eq_ofNat_of_zero_le m1.1
  obtain ⟨q', rfl⟩ := Int.eq_ofNat_of_zero_le m3.1
  obtain ⟨b0, rfl, hb0⟩ := str_of s0
  rw [strB_size] at m2
  unfold maxLen at m2
  refine ⟨⟨⟨id, o', b0, q', l⟩, A, c⟩, ⟨hr, ⟨idl, idb, by simp only; omega, hb0, by simp only; omega, by simp only; omega, hb⟩, hn1, hn2⟩, ?_⟩
  have spl : ∀ (l : List Value) (a k : Nat), l.drop a = (l.drop a).take k ++ l.drop (a + k) := fun l a k => by
    rw [← List.drop_drop, List.take_append_drop]
  have z : cs.drop 36 = [] := List.drop_of_length_le (by omega)
  have ea : (cs.drop 0).take 32 = bys id := by
    rw [← e0]; simp [List.take_take]
  have eb : (cs.drop 32).take 1 = [.int .u32 (o' : Int)] := by
    rw [← e1]
    simp only [List.drop_zero]
    rw [List.drop_take, List.take_take]
    rfl
  show cs = inC id o' b0 q' (.slice A l.length c)
  calc cs = cs.drop 0 := rfl
    _ = _ := by rw [spl _ 0 32, spl _ (0 + 32) 1, spl _ (0 + 32 + 1) 1, spl _ (0 + 32 + 1 + 1) 1, spl _ (0 + 32 + 1 + 1 + 1) 1, z, ea, eb, e2, e3, e4]; simp [inC]
theorem open_out {H : Type} {enc : TypeId × Value → H} {W : World} {base : Nat} {sp : Nat → Bool} {held : Bool} {fuel : Nat} {cs : List Value} {x : DataW H × List MemPlace} (h : DataW.trod enc Try.prog W base sp held fuel 49 cs = some x) (hl : cs.length = 2) :
    ∃ o : TOut, o.ok ∧ cs = o.cells := by
  obtain ⟨y0, y1, n, h0, h1⟩ := cells_f2 1 1 Try.underlying49 (by kernel_rfl) h
  obtain ⟨o, e1, _, m1⟩ := DataW.trod_int Try.underlying2 h0
  obtain ⟨s0, e2, _, m2⟩ := DataW.trod_string Try.underlying9 h1
  simp [Lit.wf, IntKind.min, IntKind.max, IntKind.signed, IntKind.bits] at m1
  obtain ⟨b0, rfl, hb0⟩ := str_of s0
  rw [strB_size] at m2
  unfold maxLen at m2
  refine ⟨⟨o, b0⟩, ⟨m1.1, m1.2, hb0, by simp only; omega⟩, ?_⟩
  match cs, hl with
  | [a, b], _ =>
    simp at e1 e2
    subst e1; subst e2
    rfl
set_option maxRecDepth 100000 in
theorem open_tx {H : Type} {enc : TypeId × Value → H} {W : World} {b0 : Nat} {r : Reach} {v : Value} {d : DataW H} {ps : List MemPlace}
    (hv : Value.okWide Try.prog W r b0 26 v) (hd : DataW.Trod enc Try.prog W 0 (fun _ => true) true 26 v d ps) : ∃ t : MTx, v = t.val ∧ TxAt W W.heap.size t := by
  obtain ⟨v0, v1, v2, v3, y0, y1, y2, y3, n, rfl, _, _, h0, h1, h2, h3⟩ := open_agg4 Try.underlying26 (by kernel_rfl) (by kernel_rfl) hv hd
  obtain ⟨s0, e0, _, m0⟩ := DataW.trod_int Try.underlying21 h0
  obtain ⟨s3, e3, _, m3⟩ := DataW.trod_int Try.underlying24 h3
  simp [Lit.wf, IntKind.min, IntKind.max, IntKind.signed, IntKind.bits] at m0 m3
  injection e0 with e0
  injection e3 with e3
  subst e0; subst e3
  obtain ⟨lk, rfl⟩ := Int.eq_ofNat_of_zero_le m3.1
  obtain ⟨A1, n1, c1, css1, f1, hl1, hall1, hr1, a1, a2⟩ := open_sliceG (s := 36) (T := fun cs => ∃ m : MIn, InAt W W.heap.size m ∧ cs = m.cells) Try.underlying22 (by kernel_rfl) (by omega) (fun fuel cs x h hl => open_in h hl) h1
  obtain ⟨A2, n2, c2, css2, f2, hl2, hall2, hr2, a3, a4⟩ := open_sliceG (s := 2) (T := fun cs => ∃ o : TOut, o.ok ∧ cs = o.cells) Try.underlying23 (by kernel_rfl) (by omega) (fun fuel cs x h hl => open_out h hl) h2
  injection f1 with f1
  injection f2 with f2
  subst f1; subst f2
  obtain ⟨L1, k1, k2⟩ := all_of (P := fun (m : MIn) cs => InAt W W.heap.size m ∧ cs = m.cells) css1 (fun c hc => (hall1 c hc).1)
  obtain ⟨L2, k3, k4⟩ := all_of (P := fun (o : TOut) cs => o.ok ∧ cs = o.cells) css2 (fun c hc => (hall2 c hc).1)
  have g1 := flat_of2 MIn.cells L1 css1 k1 (fun i x c hx hc => (k2 i x c hx hc).2)
  have g2 := flat_of2 TOut.cells L2 css2 k3 (fun i x c hx hc => (k4 i x c hx hc).2)
  have hn1 : n1 = L1.length := by omega
  have hn2 : n2 = L2.length := by omega
  subst hn1; subst hn2
  rw [g1] at hr1
  rw [g2] at hr2
  unfold maxLen at a2 a4
  refine ⟨⟨s0, L1, A1, c1, L2, A2, c2, lk⟩, rfl, hr1, hr2, ?_, ?_, m0.1, m0.2, by simp only; omega, a1, by simp only; omega, a3, by simp only; omega⟩
  · intro x hx
    obtain ⟨i, hi⟩ := mem_at hx
    have hil : i < css1.length := by rw [← k1]; exact (List.getElem?_eq_some_iff.1 hi).1
    exact (k2 i x _ hi (List.getElem?_eq_getElem hil)).1
  · intro x hx
    obtain ⟨i, hi⟩ := mem_at hx
    have hil : i < css2.length := by rw [← k3]; exact (List.getElem?_eq_some_iff.1 hi).1
    exact (k4 i x _ hi (List.getElem?_eq_getElem hil)).1
end Go.Proofs.Ytkdkihacpjhgmaa
