/- append, with what may be written: a row none of whose cells is frozen stays so. -/
import Derived.Test.YtahbhaphodgomaaOpw
namespace Go.Proofs.Ytahbhaphodgomaa
set_option linter.unusedSimpArgs false
set_option linter.unusedVariables false
open Go.RowKit

def Cold (w : World) (v : Value) : Prop := ∀ k, v.ownBlock = some k → ∀ o, w.frozen? ⟨k, o, none⟩ = false
theorem own_cold {w : World} {base : Nat} {e : TypeId} {v : Value} {n : Nat} {xs : List Value} (h : w.ownsRow base e 1 v n xs) : Cold w v := by
  intro k hk o
  rcases h.2 with ⟨rfl, _⟩ | ⟨g, cap, cur, rfl, hb, hg, _⟩
  · simp [Value.ownBlock] at hk
  · simp [Value.ownBlock] at hk
    subst hk
    unfold World.frozen?
    rw [hg]
    simp
theorem Cold.keep {w w' : World} {v : Value} (h : Cold w v) (hk : ∀ k, v.ownBlock = some k → w'.heap[k]? = w.heap[k]?) : Cold w' v :=
  fun k e o => (World.frozen?_of_block (w := w) (a := ⟨k, o, none⟩) (hk k e)).trans (h k e o)
section
variable {P : Program} (w : World)
theorem run_append_cold (base : Nat) (t ty e : TypeId) (i : TypeInfo) (z : Value) (bytes : Nat) (ht : P.underlying t = some (.slice e)) (hi : P.info? e = some i) (hz : i.zero = some z)
    (hsize : i.size = 1) (hby : i.bytes = bytes) (hzs : z.cells.size = 1)
    {v : Value} {n : Nat} {xs : List Value} (hbuf : Buf w base v n xs)
    {B : Nat} {A : Option Addr} {m c : Nat} {news : List Value} (hr : Rd w B A m news) (h1 : ∀ u ∈ news, u.oneCell' = true)
    (h63 : n + m ≤ maxLen) (hbytes : (n + m) * bytes ≤ 140737488355328) (hbase : base ≤ w.heap.size) :
    ∃ v' w', (Builtin.append_ #[t, t] ty #[v, .slice A m c]).run P w = .ok v' w' ∧ Buf w' base v' (n + m) (xs ++ news) ∧ w.grownBy w' v.ownBlock ∧
      (v'.ownBlock = v.ownBlock ∨ ∀ k, v'.ownBlock = some k → w.heap.size ≤ k) ∧ (Cold w v → Cold w' v') := by
  have hlen : (xs ++ news).length = n + m := by rw [List.length_append, hbuf.1, hr.1]
  rcases Nat.eq_zero_or_pos m with hm | hm
  · -- nothing is laid on
    subst hm
    have hn : news = [] := List.eq_nil_of_length_eq_zero hr.1
    subst hn
    have hg : w.grownBy w v.ownBlock := ⟨rfl, rfl, rfl, Nat.le_refl _, fun _ _ _ => rfl⟩
    have hrun : (Builtin.append_ #[t, t] ty #[v, .slice A 0 c]).run P w = .ok v w := by
      rcases hbuf.2 with ⟨rfl, rfl⟩ | ⟨g, off, cap, rfl, _, _, hnc, _⟩
      · cases A <;> simp [Builtin.append_, run_underlying ht, sizeOf, typeInfo, hi, Builtin.lenOf, Builtin.firstCells, loadCells, loadCellsFrom]
      · cases A <;> simp [Builtin.append_, run_underlying ht, sizeOf, typeInfo, hi, Builtin.lenOf, Builtin.firstCells, hnc, storeCells, loadCells, loadCellsFrom]
    exact ⟨v, w, hrun, by simpa using hbuf, hg, .inl rfl, id⟩
  · obtain ⟨ga, oa, rfl, hga, hcell⟩ := hr.2 hm
    have hnews : ∀ j u, news[j]? = some u → w.cell? ((⟨ga, oa, none⟩ : Addr).add j) = some u := fun j u hu => by rw [Addr.add_lit]; exact hcell j u hu
    have hl : news.length = m * 1 := by rw [hr.1, Nat.mul_one]
    rcases hbuf.2 with ⟨rfl, rfl⟩ | ⟨g, off, cap, rfl, hb, hlt, hnc, hcm, hx, hsp⟩
    · have hx0 : xs = [] := List.eq_nil_of_length_eq_zero hbuf.1
      subst hx0
      obtain ⟨v', w', hrun, ho, hg, _, hown⟩ := run_append_own_at (P := P) w base t ty e i z 1 bytes ht hi hz hsize hby hzs (by decide) (.slice none 0 0) 0 [] (World.ownsRow_nil w base e 1) ⟨ga, oa, none⟩ m c news hl hnews h1 h63 hbytes hbase
      exact ⟨v', w', hrun, Buf.of_own ho, hg, hown.imp id fun e' k hk => by rw [e'] at hk; injection hk with hk; omega, fun _ => own_cold ho⟩
    · by_cases hroom : n + m ≤ cap
      · have hrun := run_append_room_cells (P := P) w t ty e i ht hi g off n cap ⟨ga, oa, none⟩ m c news (by rw [hsize]; exact hl) hnews h1 hroom
          (fun j hj => by rw [hsize, Nat.mul_one, Nat.add_assoc]; exact (hsp (n + j) (by omega) (by rw [hr.1] at hj; omega)).1)
          (fun j hj => by rw [hsize, Nat.mul_one, Nat.add_assoc]; exact (hsp (n + j) (by omega) (by rw [hr.1] at hj; omega)).2)
        rw [hsize, Nat.mul_one] at hrun
        have hrest := rest_setCells g news (off + n) w
        refine ⟨_, _, hrun, ⟨hlen, .inr ⟨g, off, cap, rfl, hb, by rw [size_setCells]; exact hlt, hroom, hcm, fun j u hu => ?_, fun j j1 j2 => ?_⟩⟩,
          ⟨hrest.1, hrest.2.1, hrest.2.2, by rw [size_setCells]; exact Nat.le_refl _, fun k _ hk => heap_setCells g news (off + n) w k (fun e' => hk (by simp [Value.ownBlock, e']))⟩, .inl rfl, fun hc k hk o => by rw [World.frozen?_setCells]; exact hc k hk o⟩
        · by_cases hj : j < xs.length
          · rw [List.getElem?_append_left hj] at hu
            rw [World.cell?_setCells_out g news (off + n) w _ (fun _ _ => .inl (by show off + j < off + n; have := hbuf.1; omega))]
            exact hx j u hu
          · rw [List.getElem?_append_right (by omega)] at hu
            have hjn : j - xs.length < news.length := (List.getElem?_eq_some_iff.1 hu).1
            have := World.cell?_setCells_in g news (off + n) w (fun j' hj' => by rw [Nat.add_assoc]; exact (hsp (n + j') (by omega) (by rw [hr.1] at hj'; omega)).1) (j - xs.length) hjn
            have hbl := hbuf.1
            rw [show off + n + (j - xs.length) = off + j by omega] at this
            rw [this, ← hu, List.getElem?_eq_getElem hjn]
        · rw [World.cell?_setCells_out g news (off + n) w _ (fun _ _ => .inr (by show off + n + news.length ≤ off + j; rw [hr.1]; omega)), World.frozen?_setCells]
          exact hsp j (by omega) j2
      · obtain ⟨v', w', hrun, ho, hg⟩ := run_append_arg_grows (P := P) w t ty e i z 1 bytes ht hi hz hsize hby hzs (by decide) ⟨g, off, none⟩ n cap xs (by rw [hbuf.1, Nat.mul_one])
          (fun j u hu => by rw [Addr.add_lit]; exact hx j u hu) ⟨ga, oa, none⟩ m c news hl hnews (by omega) h63 hbytes
        exact ⟨v', w', hrun, (Buf.of_own ho).base_le hbase, ⟨hg.os, hg.tape, hg.output, hg.size, fun k hk _ => hg.block k hk (by simp)⟩, .inr fun k hk => ((Buf.of_own ho).lt k hk).1, fun _ => own_cold ho⟩

/-- The walk's law: 'v = append(v, xs...)'. -/
theorem wpList_append_cold {ops : Array Oper} {rest : List Oper} {o : Oper} {a : Act} {Q : Exit → Act → World → Prop} (hgd : o.guard = none) (s x : Operand) (t : TypeId)
    (ho : o.op = .call { callee := .builtin .append, args := #[s, x], argTypes := #[t, t] })
    (base : Nat) (e : TypeId) (i : TypeInfo) (z : Value) (bytes : Nat) (ht : P.underlying t = some (.slice e)) (hi : P.info? e = some i) (hz : i.zero = some z)
    (hsize : i.size = 1) (hby : i.bytes = bytes) (hzs : z.cells.size = 1)
    {v : Value} {n : Nat} {xs : List Value} (hs : a.eval s = v) (hbuf : Buf w base v n xs)
    {B : Nat} {A : Option Addr} {m c : Nat} {news : List Value} (hx : a.eval x = .slice A m c) (hr : Rd w B A m news) (h1 : ∀ u ∈ news, u.oneCell' = true)
    (h63 : n + m ≤ maxLen) (hbytes : (n + m) * bytes ≤ 140737488355328) (hbase : base ≤ w.heap.size)
    (hK : ∀ v' w', Buf w' base v' (n + m) (xs ++ news) → w.grownBy w' v.ownBlock → (v'.ownBlock = v.ownBlock ∨ ∀ k, v'.ownBlock = some k → w.heap.size ≤ k) → (Cold w v → Cold w' v') → wpList P ops Q rest (a.put o.dst v') w') :
    wpList P ops Q (o :: rest) a w := by
  refine wpList_plain hgd fun K hK' => ?_
  obtain ⟨v', w', hrun, r1, r2, r3, r4⟩ := run_append_cold (P := P) w base t o.type e i z bytes ht hi hz hsize hby hzs hbuf (c := c) hr h1 h63 hbytes hbase
  unfold Oper.wp
  simp [execOp, ho, resolve, invoke, builtin, hs, hx, hrun, Result.andThen]
  exact hK' _ _ (hK v' w' r1 r2 r3 r4)

end
end Go.Proofs.Ytahbhaphodgomaa
