/- What is read of bytes is in its bounds. -/
import Derived.Test.YtkdkihacpjhgmaaY8
namespace Go.Proofs.Ytkdkihacpjhgmaa
set_option linter.unusedSimpArgs false
set_option linter.unusedVariables false
open Go.RowKit

theorem B8.take {l : List Nat} (h : B8 l) (k : Nat) : B8 (l.take k) := fun c hc => h c (List.mem_of_mem_take hc)
theorem B8.drop {l : List Nat} (h : B8 l) (k : Nat) : B8 (l.drop k) := fun c hc => h c (List.mem_of_mem_drop hc)
/-- A reader's bytes, few of them. -/
def Few (s : TS) : Prop := B8 s.1 ∧ s.1.length ≤ 1000000
theorem tk_b8 {s : TS} (h : Few s) (k : Nat) : (B8 (tk s k).1 ∧ (tk s k).1.length ≤ 1000000) ∧ Few (tk s k).2 := by
  unfold tk
  split
  · exact ⟨⟨fun c hc => (by cases hc), by simp⟩, h⟩
  · split
    · exact ⟨⟨fun c hc => (by cases hc), by simp⟩, h⟩
    · exact ⟨⟨h.1.take k, by simp only [List.length_take]; have := h.2; omega⟩, h.1.drop k, by simp only [List.length_drop]; have := h.2; omega⟩
theorem rN_few {s : TS} (h : Few s) (k : Nat) : Few (rN s k).2 := (tk_b8 h k).2
theorem rH_ok {s : TS} (h : Few s) : (rH s).1.length = 32 ∧ B8 (rH s).1 ∧ Few (rH s).2 := by
  refine ⟨rH_len s, ?_, (tk_b8 h 32).2⟩
  intro c hc
  unfold rH at hc
  rcases List.mem_append.1 hc with hc | hc
  · exact (tk_b8 h 32).1.1 c hc
  · have := List.eq_of_mem_replicate hc; omega
theorem rC_few {s : TS} (h : Few s) (m : Nat) : Few (rC s m).2 := by
  unfold rC
  split
  · exact h
  · split
    · exact h
    · split
      · exact h
      · exact ⟨h.1.drop _, by simp only [List.length_drop]; have := h.2; omega⟩
theorem rT_ok {s : TS} (h : Few s) : (B8 (rT s).1 ∧ (rT s).1.length ≤ 1000000) ∧ Few (rT s).2 := tk_b8 (rC_few h 10000) _
theorem rW_few {s : TS} (h : Few s) : Few (rW s).2 := by
  unfold rW
  split
  · exact ⟨h.1.drop 2, by simp only [List.length_drop]; have := h.2; omega⟩
  · exact h
theorem rN4 {s : TS} (h : Few s) : (rN s 4).1 < 4294967296 := by
  have := rN_lt s 4 (by omega) h.1
  have e : (256 : Nat) ^ 4 = 4294967296 := by decide
  omega
theorem rIn_okF {s : TS} (h : Few s) : (rIn s).1.ok ∧ Few (rIn s).2 := by
  obtain ⟨a1, a2, a3⟩ := rH_ok h
  have b := rN_few a3 4
  obtain ⟨c1, c2⟩ := rT_ok b
  have d := rN_few c2 4
  exact ⟨⟨a1, a2, rN4 a3, c1.1, by have := c1.2; simp only [rIn]; omega, rN4 c2, by intro p hp; cases hp⟩, d⟩
theorem i64_wrap_in (x : Int) : -9223372036854775808 ≤ IntKind.i64.wrap x ∧ IntKind.i64.wrap x ≤ 9223372036854775807 := by
  simp only [IntKind.wrap, IntKind.signed, IntKind.bits]
  simp
  omega
theorem i32_wrap_in (x : Int) : -2147483648 ≤ IntKind.i32.wrap x ∧ IntKind.i32.wrap x ≤ 2147483647 := by
  simp only [IntKind.wrap, IntKind.signed, IntKind.bits]
  simp
  omega
theorem rOut_okF {s : TS} (h : Few s) : (rOut s).1.ok ∧ Few (rOut s).2 := by
  have b := rN_few h 8
  obtain ⟨c1, c2⟩ := rT_ok b
  exact ⟨⟨(i64_wrap_in _).1, (i64_wrap_in _).2, c1.1, by have := c1.2; simp only [rOut]; omega⟩, c2⟩
theorem mem_snoc {α : Type} {P : α → Prop} {L : List α} {x : α} (h : ∀ p ∈ L, P p) (hx : P x) : ∀ p ∈ L ++ [x], P p := by
  intro p hp
  rcases List.mem_append.1 hp with hp | hp
  · exact h p hp
  · simp at hp; subst hp; exact hx
theorem rIns_okF : ∀ (n : Nat) (s : TS) (L : List TIn), Few s → (∀ p ∈ L, p.ok) → (∀ p ∈ (rIns n s L).1, p.ok) ∧ Few (rIns n s L).2
  | 0, s, L, h, hL => ⟨hL, h⟩
  | n + 1, s, L, h, hL => by
    unfold rIns
    split
    · exact ⟨hL, h⟩
    · exact rIns_okF n _ _ (rIn_okF h).2 (mem_snoc hL (rIn_okF h).1)
theorem rOuts_okF : ∀ (n : Nat) (s : TS) (L : List TOut), Few s → (∀ p ∈ L, p.ok) → (∀ p ∈ (rOuts n s L).1, p.ok) ∧ Few (rOuts n s L).2
  | 0, s, L, h, hL => ⟨hL, h⟩
  | n + 1, s, L, h, hL => by
    unfold rOuts
    split
    · exact ⟨hL, h⟩
    · exact rOuts_okF n _ _ (rOut_okF h).2 (mem_snoc hL (rOut_okF h).1)
theorem rParts_okF : ∀ (n : Nat) (s : TS) (L : List (List Nat)), Few s → (∀ p ∈ L, B8 p ∧ p.length ≤ 1000000) → (∀ p ∈ (rParts n s L).1, B8 p ∧ p.length ≤ 1000000) ∧ Few (rParts n s L).2
  | 0, s, L, h, hL => ⟨hL, h⟩
  | n + 1, s, L, h, hL => by
    unfold rParts
    split
    · exact ⟨hL, h⟩
    · exact rParts_okF n _ _ (rT_ok h).2 (mem_snoc hL (rT_ok h).1)
theorem rP_okF {s : TS} (h : Few s) : (∀ p ∈ (rP s).1, B8 p ∧ p.length ≤ 1000000) ∧ Few (rP s).2 := rParts_okF _ _ _ (rC_few h 100) (by simp)
theorem rWits_okF : ∀ (L : List TIn) (s : TS), Few s → (∀ p ∈ L, p.ok) → (∀ p ∈ (rWits L s).1, p.ok) ∧ Few (rWits L s).2
  | [], s, h, hL => ⟨hL, h⟩
  | x :: r, s, h, hL => by
    have hx := hL x (by simp)
    obtain ⟨h1, h2⟩ := rP_okF h
    obtain ⟨h3, h4⟩ := rWits_okF r (rP s).2 h2 (fun p hp => hL p (by simp [hp]))
    refine ⟨?_, h4⟩
    intro p hp
    simp only [rWits, List.mem_cons] at hp
    rcases hp with rfl | hp
    · exact ⟨hx.id, hx.idb, hx.out, hx.sc, hx.scl, hx.seq, fun q hq => ⟨(h1 q hq).1, by have := (h1 q hq).2; omega⟩⟩
    · exact h3 p hp
structure PTx.ok (t : PTx) : Prop where
  ins : ∀ x ∈ t.ins, x.ok
  outs : ∀ o ∈ t.outs, o.ok
  v0 : -2147483648 ≤ t.ver
  v1 : t.ver ≤ 2147483647
  lock : t.lock < 4294967296
theorem rTx_okF {s : TS} (h : Few s) : (rTx s).1.ok ∧ Few (rTx s).2.2 := by
  have h1 := rN_few h 4
  have h2 := rW_few h1
  have h3 := rC_few h2 1024
  obtain ⟨h4, h5⟩ := rIns_okF (rC (rW (rN s 4).2).2 1024).1 _ [] h3 (by simp)
  have h6 := rC_few h5 1024
  obtain ⟨h7, h8⟩ := rOuts_okF (rC (rIns (rC (rW (rN s 4).2).2 1024).1 (rC (rW (rN s 4).2).2 1024).2 []).2 1024).1 _ [] h6 (by simp)
  unfold rTx
  simp only
  generalize rOuts _ _ [] = f at *
  generalize rIns _ _ [] = d at *
  cases (rW (rN s 4).2).1 with
  | false =>
    simp only [Bool.false_eq_true, if_false]
    exact ⟨⟨h4, h7, (i32_wrap_in _).1, (i32_wrap_in _).2, rN4 h8⟩, rN_few h8 4⟩
  | true =>
    simp only [if_true]
    obtain ⟨k1, k2⟩ := rWits_okF d.1 f.2 h8 h4
    exact ⟨⟨k1, h7, (i32_wrap_in _).1, (i32_wrap_in _).2, rN4 k2⟩, rN_few k2 4⟩
/-- What was read lies in memory, and stays while its blocks are as they are. -/
theorem TxR.at_ {w w' : World} {B g en : Nat} {bs : List Nat} {T : PTx} {u : TS} {vI : Value} {LI : List MIn} {vO : Value} (h : TxR w w' B g en bs T u vI LI vO) (hT : T.ok) :
    ∃ t : MTx, t.val = txV T vI vO ∧ t.p = T ∧ ∀ W, w'.heap.size ≤ W.heap.size → (∀ k, w.heap.size ≤ k → k < w'.heap.size → W.heap[k]? = w'.heap[k]?) → TxAt W W.heap.size t := by
  obtain ⟨A1, c1, rfl, h11, h12, _⟩ := own_rdN h.oi
  obtain ⟨A2, c2, rfl, h21, h22, _⟩ := own_rdN h.oo
  unfold maxLen at h12 h22
  refine ⟨⟨T.ver, LI, A1, c1, T.outs, A2, c2, T.lock⟩, rfl, ?_, fun W hs hk => ?_⟩
  · unfold MTx.p
    simp only
    rw [h.ins]
  · have o1 := ownN_keep h.oi (fun k e => hk k (h.oi.lt k e).1 (h.oi.lt k e).2)
    have o2 := ownN_keep h.oo (fun k e => hk k (h.oo.lt k e).1 (h.oo.lt k e).2)
    obtain ⟨B1, d1, e1, _, _, h13⟩ := own_rdN o1
    obtain ⟨B2, d2, e2, _, _, h23⟩ := own_rdN o2
    injection e1 with e11 e12 e13
    injection e2 with e21 e22 e23
    subst e11 e21
    refine ⟨h13, h23, fun x hx => ?_, hT.outs, hT.v0, hT.v1, hT.lock, h11, by simp only; omega, h21, by simp only; omega⟩
    have hb := (h.wit x hx).keep hs (fun k e => hk k ((h.wit x hx).lt k e).1 ((h.wit x hx).lt k e).2)
    have hcap := hb.cap_le
    obtain ⟨A, c, e, hnc, hr⟩ := hb.slice
    injection e with e1 e2 e3
    subst e1 e3
    unfold maxLen at hcap
    exact ⟨hr, hT.ins x.p (by rw [← h.ins]; exact List.mem_map.2 ⟨x, hx, rfl⟩), hnc, by omega⟩
end Go.Proofs.Ytkdkihacpjhgmaa
