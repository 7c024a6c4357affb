/- append of a text's bytes. -/
import Derived.Test.YtkdkihacpjhgmaaApp
import Derived.Deep.AppendSrc
import Derived.Lib.AppendStr
namespace Go.Proofs.Ytkdkihacpjhgmaa
set_option linter.unusedSimpArgs false
set_option linter.unusedVariables false
open Go.RowKit

theorem byteCells_strB (s : List Nat) (hs : ∀ c ∈ s, c < 256) : byteCells (strB s) = bys s := by
  unfold byteCells strB bys
  simp only [List.map_map]
  apply List.map_congr_left
  intro c hc
  simp [UInt8.toNat_ofNat', Nat.mod_eq_of_lt (hs c hc)]

section
variable {P : Program} (w : World)

theorem Buf.grew (base : Nat) (e : TypeId) (z : Value) (hzs : z.cells.size = 1) (l : List Value) (n cap : Nat) (hl : l.length = n) (hn : n ≤ cap) (hm : cap ≤ maxLen) (hb : base ≤ w.heap.size) :
    Buf (w.drew.alloc (.cells (l.toArray ++ Builtin.zeroCells z.cells (cap - n)) e)) base (.slice (some ⟨w.heap.size, 0, none⟩) n cap) n l := by
  refine Buf.of_own (e := e) ⟨by rw [hl, Nat.mul_one], .inr ⟨w.heap.size, cap, _, rfl, hb, heap_alloc_new w.drew _, hn, hm, ?_, ?_⟩⟩
  · simp only [Array.size_append, List.size_toArray, size_zeroCells, hzs, hl]
    omega
  · simp only [Array.toList_append]
    rw [Nat.mul_one, ← hl]
    exact List.take_left

theorem run_append_bufstr (base : Nat) (t u ty e : TypeId) (i : TypeInfo) (z : Value) (ht : P.underlying t = some (.slice e)) (hu : P.underlying u = some .string) (hi : P.info? e = some i) (hz : i.zero = some z)
    (hsize : i.size = 1) (hby : i.bytes = 1) (hzs : z.cells.size = 1)
    {v : Value} {n : Nat} {xs : List Value} (hbuf : Buf w base v n xs) (s : List Nat) (hs : ∀ c ∈ s, c < 256)
    (h63 : n + s.length ≤ maxLen) (hbytes : n + s.length ≤ 140737488355328) (hbase : base ≤ w.heap.size) :
    ∃ v' w', (Builtin.append_ #[t, u] ty #[v, .string (strB s)]).run P w = .ok v' w' ∧ Buf w' base v' (n + s.length) (xs ++ bys s) ∧ w.grownBy w' v.ownBlock ∧
      (v'.ownBlock = v.ownBlock ∨ ∀ k, v'.ownBlock = some k → w.heap.size ≤ k) := by
  have hsmall : n + s.length ≤ 9223372036854775807 := by simp only [maxLen] at h63; omega
  have hsrc : Src P i.size u (.string (strB s)) s.length (bys s) w := by
    have := Src.ofString (P := P) w hu (strB s)
    rw [strB_size, byteCells_strB s hs] at this
    rw [hsize]; exact this
  have hlen : (xs ++ bys s).length = n + s.length := by rw [List.length_append, hbuf.1, bys_len]
  have grow : ∀ (A : Option Addr) (cap : Nat), v = .slice A n cap → cap < n + s.length → (Builtin.firstCells i.size n (.slice A n cap)).run P w.drew = .ok xs.toArray w.drew → cap ≤ maxLen →
      ∃ v' w', (Builtin.append_ #[t, u] ty #[v, .string (strB s)]).run P w = .ok v' w' ∧ Buf w' base v' (n + s.length) (xs ++ bys s) ∧ w.grownBy w' v.ownBlock ∧ (v'.ownBlock = v.ownBlock ∨ ∀ k, v'.ownBlock = some k → w.heap.size ≤ k) := by
    rintro A cap rfl hlt hold hcm
    have hr := run_append_grow_src (P := P) w t u ty e i z ht hi hz A n cap xs hold (.string (strB s)) s.length (bys s) hsrc hlt (by omega) (by rw [hby]; exact growslice_fits (by omega) (by omega))
    refine ⟨_, _, hr, ?_, ⟨rfl, rfl, rfl, by simp, fun k hk _ => Below.heap_alloc w.drew _ k hk⟩, .inr fun k hk => by simp [Value.ownBlock] at hk; omega⟩
    exact Buf.grew w base e z hzs _ _ _ hlen (grownCap_ge w _ _ e) (grownCap_le_maxLen w _ _ e h63) hbase
  rcases hbuf.2 with ⟨rfl, rfl⟩ | ⟨g, off, cap, rfl, hb, hlt, hnc, hcm, hx, hsp⟩
  · have hx0 : xs = [] := List.eq_nil_of_length_eq_zero hbuf.1
    subst hx0
    rcases Nat.eq_zero_or_pos s.length with hs0 | hs0
    · have : s = [] := List.eq_nil_of_length_eq_zero hs0
      subst this
      refine ⟨.slice none 0 0, w, ?_, by simpa [bys] using Buf.nil w base, ⟨rfl, rfl, rfl, Nat.le_refl _, fun _ _ _ => rfl⟩, .inl rfl⟩
      have hc := hsrc.cells
      simp [Builtin.append_, run_underlying ht, run_underlying hu, sizeOf, typeInfo, hi, hsize, Builtin.lenOf, strB_size] at hc ⊢
      simp [hc]
    · exact grow none 0 rfl (by omega) (run_firstCells_none w.drew i.size 0 0 0) (Nat.zero_le _)
  · by_cases hroom : n + s.length ≤ cap
    · have hrun := run_append_room_src (P := P) w t u ty e i ht hi g off n cap (.string (strB s)) s.length (bys s) hsrc hroom
        (fun j hj => by rw [hsize, Nat.mul_one, Nat.add_assoc]; exact (hsp (n + j) (by omega) (by rw [bys_len] at hj; omega)).1)
        (fun j hj => by rw [hsize, Nat.mul_one, Nat.add_assoc]; exact (hsp (n + j) (by omega) (by rw [bys_len] at hj; omega)).2)
      rw [hsize, Nat.mul_one] at hrun
      have hrest := rest_setCells g (bys s) (off + n) w
      refine ⟨_, _, hrun, ⟨hlen, .inr ⟨g, off, cap, rfl, hb, by rw [size_setCells]; exact hlt, hroom, hcm, fun j u hu => ?_, fun j j1 j2 => ?_⟩⟩,
        ⟨hrest.1, hrest.2.1, hrest.2.2, by rw [size_setCells]; exact Nat.le_refl _, fun k _ hk => heap_setCells g (bys s) (off + n) w k (fun e' => hk (by simp [Value.ownBlock, e']))⟩, .inl rfl⟩
      · by_cases hj : j < xs.length
        · rw [List.getElem?_append_left hj] at hu
          rw [World.cell?_setCells_out g (bys s) (off + n) w _ (fun _ _ => .inl (by show off + j < off + n; have := hbuf.1; omega))]
          exact hx j u hu
        · rw [List.getElem?_append_right (by omega)] at hu
          have hjn : j - xs.length < (bys s).length := (List.getElem?_eq_some_iff.1 hu).1
          have := World.cell?_setCells_in g (bys s) (off + n) w (fun j' hj' => by rw [Nat.add_assoc]; exact (hsp (n + j') (by omega) (by rw [bys_len] at hj'; omega)).1) (j - xs.length) hjn
          have hbl := hbuf.1
          rw [show off + n + (j - xs.length) = off + j by omega] at this
          rw [this, ← hu, List.getElem?_eq_getElem hjn]
      · rw [World.cell?_setCells_out g (bys s) (off + n) w _ (fun _ _ => .inr (by show off + n + (bys s).length ≤ off + j; rw [bys_len]; omega)), World.frozen?_setCells]
        exact hsp j (by omega) j2
    · have hfo := run_firstCells_some (P := P) w.drew i.size n ⟨g, off, none⟩ n cap xs (by rw [hsize, Nat.mul_one]; exact hbuf.1) (fun j u hu => by rw [Addr.add_lit]; exact hx j u hu)
      exact grow (some ⟨g, off, none⟩) cap rfl (by omega) hfo hcm

/-- The walk's law: 'v = append(v, s...)', s a text. -/
theorem wpList_append_bufstr {ops : Array Oper} {rest : List Oper} {o : Oper} {a : Act} {Q : Exit → Act → World → Prop} (hgd : o.guard = none) (sv x : Operand) (t u : TypeId)
    (ho : o.op = .call { callee := .builtin .append, args := #[sv, x], argTypes := #[t, u] })
    (base : Nat) (e : TypeId) (i : TypeInfo) (z : Value) (ht : P.underlying t = some (.slice e)) (hu : P.underlying u = some .string) (hi : P.info? e = some i) (hz : i.zero = some z)
    (hsize : i.size = 1) (hby : i.bytes = 1) (hzs : z.cells.size = 1)
    {v : Value} {n : Nat} {xs : List Value} (hsv : a.eval sv = v) (hbuf : Buf w base v n xs) (s : List Nat) (hs : ∀ c ∈ s, c < 256) (hx : a.eval x = .string (strB s))
    (h63 : n + s.length ≤ maxLen) (hbytes : n + s.length ≤ 140737488355328) (hbase : base ≤ w.heap.size)
    (hK : ∀ v' w', Buf w' base v' (n + s.length) (xs ++ bys s) → w.grownBy w' v.ownBlock → (v'.ownBlock = v.ownBlock ∨ ∀ k, v'.ownBlock = some k → w.heap.size ≤ k) → wpList P ops Q rest (a.put o.dst v') w') :
    wpList P ops Q (o :: rest) a w := by
  refine wpList_plain hgd fun K hK' => ?_
  obtain ⟨v', w', hrun, r1, r2, r3⟩ := run_append_bufstr (P := P) w base t u o.type e i z ht hu hi hz hsize hby hzs hbuf s hs h63 hbytes hbase
  unfold Oper.wp
  simp [execOp, ho, resolve, invoke, builtin, hsv, hx, hrun, Result.andThen]
  exact hK' _ _ (hK v' w' r1 r2 r3)
end
end Go.Proofs.Ytkdkihacpjhgmaa
