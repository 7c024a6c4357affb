/- Slices of byte slices that come in; which records a cut row of records holds. -/
import Derived.Test.YtahbhaphodgomabDoorAgnW
import Derived.Deep.Slices
import Derived.ChangeSlices
namespace Go.Proofs.YtahbhaphodgomabDoor
set_option linter.unusedSimpArgs false
set_option linter.unusedVariables false
open Go.RowKit Go.ChangeShapes Go.WideShapes Go.Deep

/-- A slice of byte slices that came in: vs are its elements, ds their bytes. -/
structure RdL (w : World) (A : Option Addr) (n : Nat) (vs : List Value) (ds : List (List Nat)) : Prop where
  rd : Rd w w.heap.size A n vs
  len : ds.length = n
  each : ∀ (j : Nat) (d : List Nat), ds[j]? = some d → ∃ A' c', vs[j]? = some (.slice A' d.length c') ∧ Rd w w.heap.size A' d.length (bys d) ∧ (∀ c ∈ d, c < 256) ∧ d.length ≤ c' ∧ c' ≤ maxLen

theorem open_rows {H : Type} {enc : TypeId × Value → H} {W : World} {b0 : Nat} {r : Reach} {v : Value} {d : DataW H} {ps : List MemPlace}
    (hv : Value.okWide Tryd.prog W r b0 36 v) (hd : DataW.Trod enc Tryd.prog W 0 (fun _ => true) true 36 v d ps) :
    ∃ (A : Option Addr) (n c : Nat) (vs : List Value) (ds : List (List Nat)), v = .slice A n c ∧ RdL W A n vs ds ∧ n ≤ c ∧ c ≤ maxLen := by
  obtain ⟨A, n, c, rfl⟩ := okWide_slice Tryd.underlying36 hv
  obtain ⟨fuel, hf⟩ := hd
  rcases open_slice1 Tryd.underlying36 (by kernel_rfl) hf with ⟨hcs, _⟩ | ⟨a, len, cap, m, q, V, D, Pl, hcs, _, hl, hm, hmm, _, hi⟩
  · simp [Value.cells] at hcs
    obtain ⟨rfl, rfl, rfl⟩ := hcs
    exact ⟨none, 0, 0, [], [], rfl, ⟨Rd.nil, rfl, fun j d h => by simp at h⟩, Nat.le_refl _, by unfold maxLen; omega⟩
  · simp [Value.cells] at hcs
    obtain ⟨rfl, rfl, rfl⟩ := hcs
    simp at hmm
    subst hmm
    have key : ∀ i, i < n → ∃ d : List Nat, ∃ A' c', V i = .slice A' d.length c' ∧ Rd W W.heap.size A' d.length (bys d) ∧ (∀ c ∈ d, c < 256) ∧ d.length ≤ c' ∧ c' ≤ maxLen := by
      intro i him
      obtain ⟨_, ht⟩ := hi i (by omega)
      have hrow : ∃ A' l' c' zs, V i = .slice A' l' c' ∧ ((A' = none ∧ l' = 0 ∧ c' = 0 ∧ zs = []) ∨ ∃ x, A' = some x ∧ l' ≤ c' ∧ c' ≤ maxLen ∧ zs.length = c' ∧ (∀ i, i < zs.length → W.cell? (x.add i) = some (.int .u8 (zs.getD i 0))) ∧ ∀ n ∈ zs, (Lit.int .u8 n).wf = true) := by
        rcases open_ints Tryd.underlying22 Tryd.underlying5 (by kernel_rfl) ht with ⟨hcs, _⟩ | ⟨x, l, c', zs, hcs, _, hl', hm', hz, _, hcell, hwz⟩
        · injection hcs with h1
          exact ⟨none, 0, 0, [], h1, .inl ⟨rfl, rfl, rfl, rfl⟩⟩
        · injection hcs with h1
          exact ⟨some x, l, c', zs, h1, .inr ⟨x, rfl, hl', hm', by simpa using hz, hcell, hwz⟩⟩
      obtain ⟨A', l', c', zs, e, hrow⟩ := hrow
      obtain ⟨bs, h1, h2, h3, h4, h5⟩ := rd_of_row hrow
      subst h3
      exact ⟨bs, A', c', e, h1, h2, h4, h5⟩
    obtain ⟨F, hF⟩ := choose_lt key
    refine ⟨some a, n, _, (List.range n).map V, (List.range n).map F, rfl, ⟨⟨by simp, fun hn => ?_⟩, by simp, fun j d hj => ?_⟩, hl, hm⟩
    · have h0 := (hi 0 (by omega)).1
      obtain ⟨b, off, rfl⟩ : ∃ b off, a = ⟨b, off, none⟩ := by
        obtain ⟨b, off, spot⟩ := a
        have hspot : spot = none := by simpa [Addr.add] using World.cell?_spot h0
        subst hspot
        exact ⟨b, off, rfl⟩
      refine ⟨b, off, rfl, World.block_lt_of_cell? _ _ h0, fun j u hj => ?_⟩
      have hjl : j < n := by have := (List.getElem?_eq_some_iff.1 hj).1; simpa using this
      have hc := (hi j (by omega)).1
      simp [List.getElem?_map, List.getElem?_range hjl] at hj
      subst hj
      simpa only [Addr.add_lit] using hc
    · have hjl : j < n := by have := (List.getElem?_eq_some_iff.1 hj).1; simpa using this
      obtain ⟨A', c', e, h⟩ := hF j hjl
      simp [List.getElem?_map, List.getElem?_range hjl] at hj
      subst hj
      exact ⟨A', c', by simp [List.getElem?_map, List.getElem?_range hjl, e], h⟩

/-- Where the j-th record ends. -/
def eN (ds : List (List Nat)) (j : Nat) : Nat := (recs (ds.take j)).length
theorem eN_zero (ds : List (List Nat)) : eN ds 0 = 0 := by simp [eN, recs]
theorem eN_succ (ds : List (List Nat)) (j : Nat) (h : j < ds.length) : eN ds (j + 1) = eN ds j + (12 + (ds[j]).length) := by
  unfold eN
  rw [List.take_succ_eq_append_getElem h, recs_snoc, List.length_append, recB_len]
theorem eN_mono (ds : List (List Nat)) (i j : Nat) (h : i ≤ j) : eN ds i ≤ eN ds j := by
  unfold eN
  have : ds.take j = ds.take i ++ (ds.drop i).take (j - i) := by rw [← List.take_add]; congr 1; omega
  rw [this, recs, recs, List.flatMap_append, List.length_append]
  omega
theorem eN_le (ds : List (List Nat)) (hd : ∀ d ∈ ds, d.length ≤ 200) (j : Nat) (h : j ≤ ds.length) : eN ds j ≤ 212 * j := by
  induction j with
  | zero => simp [eN_zero]
  | succ j ih =>
    have := ih (by omega)
    have h2 := hd _ (List.getElem_mem (show j < ds.length by omega))
    rw [eN_succ ds j (by omega)]
    omega

theorem recs_drop (ds : List (List Nat)) (q : Nat) : (recs ds).drop (eN ds q) = recs (ds.drop q) := by
  have h : recs ds = recs (ds.take q) ++ recs (ds.drop q) := by rw [recs, recs, recs, ← List.flatMap_append, List.take_append_drop]
  unfold eN
  conv => lhs; rw [h]
  simp

theorem drop_at (ds : List (List Nat)) (cut q : Nat) (h : eN ds q ≤ cut) : ((recs ds).take cut).drop (eN ds q) = (recs (ds.drop q)).take (cut - eN ds q) := by
  rw [List.drop_take, recs_drop]

/-- What stands at the q-th record's place of the cut row. -/
theorem cut_at (ds : List (List Nat)) (hd : ∀ d ∈ ds, d.length ≤ 1048576) (cut q : Nat) (h : eN ds q ≤ cut) (hq : q ≤ ds.length) :
    (nE (((recs ds).take cut).drop (eN ds q)) = 8 ∧ (q = ds.length ∨ cut < eN ds (q + 1))) ∨
    (∃ hl : q < ds.length, nE (((recs ds).take cut).drop (eN ds q)) = 0 ∧ nD (((recs ds).take cut).drop (eN ds q)) = ds[q] ∧ nN (((recs ds).take cut).drop (eN ds q)) = 12 + (ds[q]).length ∧ eN ds (q + 1) ≤ cut) := by
  rw [drop_at ds cut q h]
  by_cases hl : q < ds.length
  · have hs := eN_succ ds q hl
    have hdl := hd _ (List.getElem_mem hl)
    have e : recs (ds.drop q) = recB ds[q] ++ recs (ds.drop (q + 1)) := by unfold recs; rw [List.drop_eq_getElem_cons hl, List.flatMap_cons]
    rw [e]
    by_cases hc : cut < eN ds (q + 1)
    · left
      refine ⟨?_, .inr hc⟩
      rw [List.take_append_of_le_length (by rw [recB_len]; omega)]
      exact next_cut _ hdl _ (by omega)
    · right
      have e2 : (recB ds[q] ++ recs (ds.drop (q + 1))).take (cut - eN ds q) = recB ds[q] ++ (recs (ds.drop (q + 1))).take (cut - eN ds q - (recB ds[q]).length) := by
        rw [List.take_append, List.take_of_length_le (by rw [recB_len]; omega)]
      rw [e2]
      obtain ⟨r1, r2, r3⟩ := next_rec ds[q] ((recs (ds.drop (q + 1))).take (cut - eN ds q - (recB ds[q]).length)) hdl
      exact ⟨hl, r1, r2, r3, by omega⟩
  · left
    refine ⟨?_, .inl (by omega)⟩
    rw [List.drop_eq_nil_of_le (by omega)]
    simp [recs, nE]

theorem chain_det (ds : List (List Nat)) (hd : ∀ d ∈ ds, d.length ≤ 1048576) (cut : Nat) {es : List (List Nat)} {a : Nat} (h : Chain ((recs ds).take cut) es a) :
    es.length ≤ ds.length ∧ es = ds.take es.length ∧ a = eN ds es.length ∧ a ≤ cut := by
  induction h with
  | nil => exact ⟨Nat.zero_le _, by simp, by simp [eN_zero], Nat.zero_le _⟩
  | snoc hc h0 ih =>
    rename_i es a
    obtain ⟨i1, i2, i3, i4⟩ := ih
    rw [i3] at h0 i4 ⊢
    rcases cut_at ds hd cut es.length i4 i1 with ⟨h8, _⟩ | ⟨hl, _, r2, r3, r4⟩
    · rw [h8] at h0; cases h0
    · rw [r2, r3]
      have hs := eN_succ ds es.length hl
      refine ⟨by simp; omega, ?_, by simp [hs], by omega⟩
      simp only [List.length_append, List.length_singleton]
      rw [List.take_succ_eq_append_getElem hl, ← i2]

theorem chain_end (ds : List (List Nat)) (hd : ∀ d ∈ ds, d.length ≤ 1048576) (cut : Nat) {es : List (List Nat)} {a : Nat} (h : Chain ((recs ds).take cut) es a) (hE : nE (((recs ds).take cut).drop a) ≠ 0) :
    nE (((recs ds).take cut).drop a) = 8 ∧ (es.length = ds.length ∨ cut < eN ds (es.length + 1)) := by
  obtain ⟨i1, i2, i3, i4⟩ := chain_det ds hd cut h
  rw [i3] at hE i4 ⊢
  rcases cut_at ds hd cut es.length i4 i1 with h8 | ⟨hl, r1, _⟩
  · exact h8
  · exact absurd r1 hE

def endsL (ds : List (List Nat)) (j : Nat) : List Value := (List.range (j + 1)).map fun i => Value.int .i64 ((eN ds i : Nat) : Int)
theorem endsL_len (ds : List (List Nat)) (j : Nat) : (endsL ds j).length = j + 1 := by simp [endsL]
theorem endsL_zero (ds : List (List Nat)) : endsL ds 0 = [.int .i64 0] := by simp [endsL, List.range_succ, eN_zero]
theorem endsL_succ (ds : List (List Nat)) (j : Nat) : endsL ds (j + 1) = endsL ds j ++ [.int .i64 ((eN ds (j + 1) : Nat) : Int)] := by simp [endsL, List.range_succ]
theorem endsL_at (ds : List (List Nat)) (j i : Nat) (h : i ≤ j) : (endsL ds j)[i]? = some (.int .i64 ((eN ds i : Nat) : Int)) := by
  simp [endsL, List.getElem?_map, List.getElem?_range (show i < j + 1 by omega)]
end Go.Proofs.YtahbhaphodgomabDoor
