/- Entries as data; slices.Insert of one entry, whatever room there is. -/
import Derived.Test.YtgdkcnpgnmmliabM3
import Derived.Test.YtgdkcnpgnmmliabS0
import Derived.Test.YtgdkcnpgnmmliabTch
namespace Go.Proofs.Ytgdkcnpgnmmliab
set_option linter.unusedSimpArgs false
set_option linter.unusedVariables false
open Go.RowKit

/-- An entry as data. -/
structure En where
  k : ByteArray
  S : Int
  d : Bool
  v : ByteArray
def En.cells (x : En) : List Value := [.string x.k, .int .u64 x.S, .bool x.d, .string x.v]
abbrev En.val (x : En) : Value := ent x.k x.S x.d x.v
def flat (L : List En) : List Value := L.flatMap En.cells
def cmpE (x y : En) : Int := cE x.k x.S y.k y.S
theorem En.cells_len (x : En) : x.cells.length = 4 := rfl
theorem En.one (x : En) : ∀ v ∈ x.cells, v.oneCell' = true := by
  intro v hv
  simp [En.cells] at hv
  rcases hv with rfl | rfl | rfl | rfl <;> rfl
theorem flat_length (L : List En) : (flat L).length = L.length * 4 := by
  unfold flat
  induction L with
  | nil => rfl
  | cons a L ih => rw [List.flatMap_cons, List.length_append, ih, En.cells_len, List.length_cons]; omega
theorem flat_append (L M : List En) : flat (L ++ M) = flat L ++ flat M := by unfold flat; rw [List.flatMap_append]
theorem flat_cons (x : En) (M : List En) : flat (x :: M) = x.cells ++ flat M := by unfold flat; rw [List.flatMap_cons]
theorem flat_take (L : List En) (i : Nat) (hi : i ≤ L.length) : (flat L).take (i * 4) = flat (L.take i) := by
  conv => lhs; rw [← List.take_append_drop i L]
  have h : (flat (L.take i)).length = i * 4 := by rw [flat_length, List.length_take, Nat.min_eq_left hi]
  rw [flat_append, List.take_append_of_le_length (by omega), List.take_of_length_le (by omega)]
theorem flat_drop (L : List En) (i : Nat) (hi : i ≤ L.length) : (flat L).drop (i * 4) = flat (L.drop i) := by
  conv => lhs; rw [← List.take_append_drop i L]
  have h : (flat (L.take i)).length = i * 4 := by rw [flat_length, List.length_take, Nat.min_eq_left hi]
  rw [flat_append, List.drop_append, List.drop_eq_nil_of_le (by omega), h, Nat.sub_self]; rfl
theorem flat_one (L : List En) : ∀ v ∈ flat L, v.oneCell' = true := by
  intro v hv
  unfold flat at hv
  obtain ⟨x, _, hx⟩ := List.mem_flatMap.1 hv
  exact x.one v hx
theorem flat_get (L : List En) (i : Nat) (x : En) (h : L[i]? = some x) (j : Nat) (u : Value) (hu : x.cells[j]? = some u) : (flat L)[i * 4 + j]? = some u := by
  obtain ⟨hi, rfl⟩ := List.getElem?_eq_some_iff.1 h
  have h4 : j < 4 := by have := (List.getElem?_eq_some_iff.1 hu).1; rwa [En.cells_len] at this
  have e : (flat L).drop (i * 4) = L[i].cells ++ flat (L.drop (i + 1)) := by
    rw [flat_drop L i (by omega), List.drop_eq_getElem_cons hi, flat_cons]
  have := congrArg (fun l => l[j]?) e
  simp only [List.getElem?_drop] at this
  rw [this, List.getElem?_append_left (by rw [En.cells_len]; exact h4)]
  exact hu

theorem ordE : Ord3 cmpE := by
  have z : ∀ x y : En, cmpE x y = 0 → x.k = y.k ∧ x.S = y.S := fun x y h => by
    unfold cmpE at h
    rcases stand x.k y.k x.S y.S with k | k | k | k | k
    · rw [k.2.2.1] at h; cases h
    · rw [k.2.2.1] at h; cases h
    · rw [k.2.2.1] at h; cases h
    · rw [k.2.2.1] at h; cases h
    · exact ⟨k.1, k.2.1⟩
  refine ⟨fun x => ?_, fun x y => ?_, fun x y z h k => ?_, fun x y u h k => ?_, fun x y u h k => ?_⟩
  · unfold cmpE
    rcases stand x.k x.k x.S x.S with k | k | k | k | k
    · rw [less_irrefl] at k; cases k.1
    · have := k.2.1; simp at this
    · omega
    · omega
    · exact k.2.2.1
  · unfold cmpE
    rcases stand x.k y.k x.S y.S with k | k | k | k | k <;> simp [k.2.2.1, k.2.2.2]
  · have e : ∀ a b : En, cmpE a b < 0 → cmpE a b = -1 := fun a b h => by
      unfold cmpE at *
      rcases cE_vals a.k b.k a.S b.S with v | v | v <;> omega
    have h1 := e _ _ h
    have h2 := e _ _ k
    unfold cmpE at *
    rw [cE_trans _ _ _ _ _ _ h1 h2]; omega
  · obtain ⟨e1, e2⟩ := z _ _ h
    unfold cmpE at *
    rw [e1, e2]; exact k
  · obtain ⟨e1, e2⟩ := z _ _ k
    unfold cmpE at *
    rw [← e1, ← e2]; exact h
theorem cmpE_zero (x y : En) : cmpE x y = 0 ↔ x.k = y.k ∧ x.S = y.S := by
  unfold cmpE
  constructor
  · intro h
    rcases stand x.k y.k x.S y.S with k | k | k | k | k
    · rw [k.2.2.1] at h; cases h
    · rw [k.2.2.1] at h; cases h
    · rw [k.2.2.1] at h; cases h
    · rw [k.2.2.1] at h; cases h
    · exact ⟨k.1, k.2.1⟩
  · rintro ⟨h, k⟩
    rw [h, k]
    exact ordE.refl y

/-- The row of a list of entries that is the call's own. -/
abbrev OwnE (w : World) (base : Nat) (v : Value) (L : List En) : Prop := w.ownsRow base 42 4 v L.length (flat L)

theorem ins_any (base vb i : Nat) (v : Value) (L : List En) (x : En) (w : World) (hi : i ≤ L.length) (hn6 : (L.length : Int) ≤ 1000000) (hbase : base ≤ w.heap.size)
    (hown : OwnE w base v L) (hv : w.heap[vb]? = some (.cells x.cells.toArray 42 (0, 0))) (hne : v.ownBlock ≠ some vb) :
    Calls Try.prog 48 #[v, .int .i64 (i : Int), .slice (some ⟨vb, 0, none⟩) 1 1] w fun e w' =>
      ∃ v', e = .returned v' ∧ OwnE w' base v' (L.take i ++ x :: L.drop i) ∧ w.grownBy w' v.ownBlock ∧ (v'.ownBlock = v.ownBlock ∨ ∀ k, v'.ownBlock = some k → w.heap.size ≤ k) := by
  have hlen : (L.take i ++ x :: L.drop i).length = L.length + 1 := by simp; omega
  have hfl : flat (L.take i ++ x :: L.drop i) = flat (L.take i) ++ x.cells ++ flat (L.drop i) := by rw [flat_append, flat_cons, List.append_assoc]
  unfold OwnE
  rw [hlen]
  rcases Nat.lt_or_eq_of_le hi with hlt | rfl
  · rcases hown.2 with ⟨rfl, h0⟩ | ⟨g, cap, cur, rfl, hb, hg, hnc, hcm, hcs, ht⟩
    · omega
    · have hcs' : (flat L).length = L.length * 4 := flat_length L
      have ht1 : cur.toList.take (i * 4) = flat (L.take i) := by
        rw [← flat_take L i hi, ← ht, List.take_take, Nat.min_eq_left (by omega)]
      have ht2 : (cur.toList.take (L.length * 4)).drop (i * 4) = flat (L.drop i) := by rw [ht, flat_drop L i hi]
      have hcl : cur.toList.length = cap * 4 := by rw [Array.length_toList, hcs]
      have hx4 : x.cells.length = 4 := rfl
      have hyl : ((cur.toList.take (L.length * 4)).drop (i * 4)).length = (L.length - i) * 4 := by rw [ht2, flat_length, List.length_drop]
      by_cases hroom : L.length + 1 ≤ cap
      · refine (ins_shift g L.length cap i vb cur x.cells w hlt hroom hn6 (by unfold maxLen at hcm; omega) hg hcs hv rfl (fun e => hne (by rw [e]; rfl)) (by rw [ht2]; exact flat_one _) x.one).mono ?_
        rintro e w' ⟨rfl, h1, h2⟩
        refine ⟨_, rfl, ⟨by rw [flat_length, hlen], .inr ⟨g, cap, _, rfl, hb, h1, hroom, hcm, ?_, ?_⟩⟩, h2, .inl rfl⟩
        · have e1 := seg_length cur.toList (i * 4 + x.cells.length) ((cur.toList.take (L.length * 4)).drop (i * 4)) (by omega)
          have e2 := seg_length (seg cur.toList (i * 4 + x.cells.length) ((cur.toList.take (L.length * 4)).drop (i * 4))) (i * 4) x.cells (by omega)
          rw [List.size_toArray, e2, e1, hcl]
        · have := seg_yx cur.toList (i * 4) x.cells ((cur.toList.take (L.length * 4)).drop (i * 4)) (by omega)
          rw [hfl, ← ht2, ← ht1]
          show List.take _ (seg _ _ _) = _
          rw [← this]
          congr 1
          omega
      · obtain rfl : cap = L.length := by omega
        have hd : cur.toList.drop (i * 4) = flat (L.drop i) := by
          rw [← ht2, List.take_of_length_le (by rw [Array.length_toList, hcs]; exact Nat.le_refl _)]
        refine (ins_grow g L.length i vb cur x.cells w hlt hn6 hg hcs hv rfl (by rw [hd]; exact flat_one _) x.one).mono ?_
        rintro e w' ⟨GC, cur2, rfl, h1, h2, h3, h4, h5, h6⟩
        refine ⟨_, rfl, ⟨by rw [flat_length, hlen], .inr ⟨w.heap.size, GC, cur2, rfl, hbase, h1, h2, h3, h4, ?_⟩⟩, ⟨h6.os, h6.tape, h6.output, h6.size, fun k hk _ => h6.block k hk (by simp)⟩, .inr fun k hk => ?_⟩
        · rw [h5, ht1, hd, hfl]
        · injection hk with hk; exact Nat.le_of_eq hk
  · refine (ins_end base L.length vb v (flat L) x.cells w hn6 hbase hown hv rfl x.one).mono ?_
    rintro e w' ⟨v', rfl, h1, h2, h3⟩
    refine ⟨v', rfl, ?_, h2, h3⟩
    rw [hfl, List.take_length, List.drop_length]
    simpa [flat] using h1
end Go.Proofs.Ytgdkcnpgnmmliab
