/- Ints in the order of the law; slices.Insert of one int, whatever room there is. -/
import Derived.Test.YtgdkcnpgnmmliabIM3
import Derived.Test.YtgdkcnpgnmmliabS0
import Derived.Test.YtgdkcnpgnmmliabTch
namespace Go.Proofs.Ytgdkcnpgnmmliab
set_option linter.unusedSimpArgs false
set_option linter.unusedVariables false
open Go.RowKit

def cI (a b : Nat) : Int := if a / 3 < b / 3 then -1 else if b / 3 < a / 3 then 1 else 0
theorem cI_lt (a b : Nat) : cI a b < 0 ↔ a / 3 < b / 3 := by unfold cI; (repeat' split) <;> omega
theorem cI_zero (a b : Nat) : cI a b = 0 ↔ a / 3 = b / 3 := by unfold cI; (repeat' split) <;> omega
theorem ordI : Ord3 cI := by
  refine ⟨fun x => ?_, fun x y => ?_, fun x y z h k => ?_, fun x y u h k => ?_, fun x y u h k => ?_⟩
  · rw [cI_zero]
  · rw [cI_lt]
    unfold cI
    (repeat' split) <;> omega
  · rw [cI_lt] at *; omega
  · rw [cI_zero] at h; rw [cI_lt] at *; omega
  · rw [cI_zero] at k; rw [cI_lt] at *; omega
def cellsI (L : List Nat) : List Value := L.map fun (x : Nat) => Value.int .i64 (x : Int)
theorem cellsI_len (L : List Nat) : (cellsI L).length = L.length := by simp [cellsI]
theorem cellsI_app (L M : List Nat) : cellsI (L ++ M) = cellsI L ++ cellsI M := by simp [cellsI]
theorem cellsI_take (L : List Nat) (i : Nat) : (cellsI L).take i = cellsI (L.take i) := by simp [cellsI]
theorem cellsI_drop (L : List Nat) (i : Nat) : (cellsI L).drop i = cellsI (L.drop i) := by simp [cellsI]
theorem cellsI_one (L : List Nat) : ∀ v ∈ cellsI L, v.oneCell' = true := by
  intro v hv
  obtain ⟨x, _, rfl⟩ := List.mem_map.1 hv
  rfl
theorem RdN.int {w : World} {B : Nat} {A : Option Addr} {L : List Nat} (h : RdN w B 1 A L.length (cellsI L)) (i : Nat) (y : Nat) (hy : L[i]? = some y) : ∃ g off, A = some ⟨g, off, none⟩ ∧ g < B ∧ w.cell? ⟨g, off + i, none⟩ = some (.int .i64 (y : Int)) := by
  have hi : i < L.length := (List.getElem?_eq_some_iff.1 hy).1
  obtain ⟨g, off, e, hg, hc⟩ := h.at_ (by omega)
  exact ⟨g, off, e, hg, hc i _ (by simp [cellsI, hy])⟩
/-- The row of a list of ints that is the call's own. -/
abbrev OwnI (w : World) (base : Nat) (v : Value) (L : List Nat) : Prop := w.ownsRow base 3 1 v L.length (cellsI L)

theorem ins_anyI (base vb i : Nat) (v : Value) (L : List Nat) (x : Nat) (w : World) (hi : i ≤ L.length) (hn6 : (L.length : Int) ≤ 1000000) (hbase : base ≤ w.heap.size)
    (hown : OwnI w base v L) (hv : w.heap[vb]? = some (.cells #[.int .i64 (x : Int)] 3 (0, 0))) (hne : v.ownBlock ≠ some vb) :
    Calls Try.prog 29 #[v, .int .i64 (i : Int), .slice (some ⟨vb, 0, none⟩) 1 1] w fun e w' =>
      ∃ v', e = .returned v' ∧ OwnI w' base v' (L.take i ++ x :: L.drop i) ∧ w.grownBy w' v.ownBlock ∧ (v'.ownBlock = v.ownBlock ∨ ∀ k, v'.ownBlock = some k → w.heap.size ≤ k) := by
  have hlen : (L.take i ++ x :: L.drop i).length = L.length + 1 := by simp; omega
  have hfl : cellsI (L.take i ++ x :: L.drop i) = cellsI (L.take i) ++ [.int .i64 (x : Int)] ++ cellsI (L.drop i) := by simp [cellsI]
  have hx1 : ∀ v ∈ [Value.int .i64 (x : Int)], v.oneCell' = true := by intro v hv; simp at hv; subst hv; rfl
  unfold OwnI
  rw [hlen]
  rcases Nat.lt_or_eq_of_le hi with hlt | rfl
  · rcases hown.2 with ⟨rfl, h0⟩ | ⟨g, cap, cur, rfl, hb, hg, hnc, hcm, hcs, ht⟩
    · omega
    · have hcs' : (cellsI L).length = L.length := cellsI_len L
      rw [Nat.mul_one] at hcs ht
      have ht1 : cur.toList.take i = cellsI (L.take i) := by
        rw [← cellsI_take L i, ← ht, List.take_take, Nat.min_eq_left (by omega)]
      have ht2 : (cur.toList.take L.length).drop i = cellsI (L.drop i) := by rw [ht, cellsI_drop L i]
      have hcl : cur.toList.length = cap := by rw [Array.length_toList, hcs]
      have hyl : ((cur.toList.take L.length).drop i).length = L.length - i := by rw [ht2, cellsI_len, List.length_drop]
      by_cases hroom : L.length + 1 ≤ cap
      · refine (ins_shiftI g L.length cap i vb cur [.int .i64 (x : Int)] w hlt hroom hn6 (by unfold maxLen at hcm; omega) hg hcs hv rfl (fun e => hne (by rw [e]; rfl)) (by rw [ht2]; exact cellsI_one _) hx1).mono ?_
        rintro e w' ⟨rfl, h1, h2⟩
        refine ⟨_, rfl, ⟨by rw [cellsI_len, hlen, Nat.mul_one], .inr ⟨g, cap, _, rfl, hb, h1, hroom, hcm, ?_, ?_⟩⟩, h2, .inl rfl⟩
        · have e1 := seg_length cur.toList (i + 1) ((cur.toList.take L.length).drop i) (by omega)
          have e2 := seg_length (seg cur.toList (i + 1) ((cur.toList.take L.length).drop i)) i [.int .i64 (x : Int)] (by simp; omega)
          rw [List.size_toArray, Nat.mul_one]
          exact (e2.trans e1).trans hcl
        · have := seg_yx cur.toList i [.int .i64 (x : Int)] ((cur.toList.take L.length).drop i) (by simp only [List.length_singleton]; omega)
          rw [hfl, ← ht2, ← ht1]
          show List.take _ (seg _ _ _) = _
          rw [← this]
          congr 1
          simp only [List.length_singleton]
          omega
      · obtain rfl : cap = L.length := by omega
        have hd : cur.toList.drop i = cellsI (L.drop i) := by
          rw [← ht2, List.take_of_length_le (by rw [Array.length_toList, hcs]; exact Nat.le_refl _)]
        refine (ins_growI g L.length i vb cur [.int .i64 (x : Int)] w hlt hn6 hg hcs hv rfl (by rw [hd]; exact cellsI_one _) hx1).mono ?_
        rintro e w' ⟨GC, cur2, rfl, h1, h2, h3, h4, h5, h6⟩
        refine ⟨_, rfl, ⟨by rw [cellsI_len, hlen, Nat.mul_one], .inr ⟨w.heap.size, GC, cur2, rfl, hbase, h1, h2, h3, by rw [Nat.mul_one]; exact h4, ?_⟩⟩, ⟨h6.os, h6.tape, h6.output, h6.size, fun k hk _ => h6.block k hk (by simp)⟩, .inr fun k hk => ?_⟩
        · rw [Nat.mul_one, h5, ht1, hd, hfl]
        · injection hk with hk; exact Nat.le_of_eq hk
  · refine (ins_endI base L.length vb v (cellsI L) [.int .i64 (x : Int)] w hn6 hbase hown hv rfl hx1).mono ?_
    rintro e w' ⟨v', rfl, h1, h2, h3⟩
    refine ⟨v', rfl, ?_, h2, h3⟩
    rw [hfl, List.take_length, List.drop_length]
    simpa [cellsI] using h1
end Go.Proofs.Ytgdkcnpgnmmliab
