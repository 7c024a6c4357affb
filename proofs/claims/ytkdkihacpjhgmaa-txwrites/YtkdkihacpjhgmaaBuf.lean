/- Memory words of my own: a slice that is read ('Rd'), a slice that is laid on ('Buf': nil, a literal's row, a conversion's row with its mark, a row of the call's own), and what 'append' makes of them. Elements of one cell. -/
import Derived.WalkKit
import Derived.ArgAppend
import Derived.Maps.AppendAt
import Derived.Laws.OwnMore
import Derived.Deep.Draws
import Derived.Laws.IdiomStrings
namespace Go.Proofs.Ytkdkihacpjhgmaa
set_option linter.unusedSimpArgs false
set_option linter.unusedVariables false
open Go.RowKit

/-- The slice '.slice A n _' reads as the cells xs, and lies below block B. -/
def Rd (w : World) (B : Nat) (A : Option Addr) (n : Nat) (xs : List Value) : Prop :=
  xs.length = n ∧ (0 < n → ∃ g off, A = some ⟨g, off, none⟩ ∧ g < B ∧ ∀ j u, xs[j]? = some u → w.cell? ⟨g, off + j, none⟩ = some u)

section
variable {w w' : World} {B B' n : Nat} {A : Option Addr} {xs : List Value}
theorem Rd.nil : Rd w B A 0 [] := ⟨rfl, fun h => absurd h (by omega)⟩
theorem Rd.keep (h : Rd w B A n xs) (hk : ∀ p : Addr, p.block < B → w'.cell? p = w.cell? p) : Rd w' B A n xs :=
  ⟨h.1, fun hn => by
    obtain ⟨g, off, e, hb, hc⟩ := h.2 hn
    exact ⟨g, off, e, hb, fun j u hu => (hk _ hb).trans (hc j u hu)⟩⟩
theorem Rd.up (h : Rd w B A n xs) (hB : B ≤ B') : Rd w B' A n xs :=
  ⟨h.1, fun hn => by
    obtain ⟨g, off, e, hb, hc⟩ := h.2 hn
    exact ⟨g, off, e, by omega, hc⟩⟩
theorem Rd.below (h : Rd w B A n xs) (hb : Below B w w') : Rd w' B A n xs := h.keep fun _ hp => hb.cell hp
theorem Rd.alloc (h : Rd w B A n xs) (hB : B ≤ w.heap.size) (o : Obj) : Rd (w.alloc o) B A n xs := h.below ((Below.refl _ _).alloc hB o)
theorem Rd.drew (h : Rd w B A n xs) : Rd w.drew B A n xs := h
theorem Rd.drewN (h : Rd w B A n xs) (k : Nat) : Rd (w.drewN k) B A n xs := h
theorem Rd.grown (h : Rd w B A n xs) {row : Option Nat} (hg : w.grownBy w' row) (hB : B ≤ w.heap.size) (hr : ∀ g, row = some g → B ≤ g) : Rd w' B A n xs :=
  h.below ((Below.refl _ _).grown hg hB hr)
/-- Element k, where there is one. -/
theorem Rd.at_ {k : Nat} (h : Rd w B A n xs) (hk : k < n) : ∃ g off u, A = some ⟨g, off, none⟩ ∧ g < B ∧ xs[k]? = some u ∧ w.cell? ⟨g, off + k, none⟩ = some u := by
  obtain ⟨g, off, e, hb, hc⟩ := h.2 (by omega)
  have hl : k < xs.length := by have := h.1; omega
  exact ⟨g, off, xs[k], e, hb, List.getElem?_eq_getElem hl, hc k _ (List.getElem?_eq_getElem hl)⟩
end

/-- The slice value v holds xs, and may be laid on: its spare cells are there and are not frozen; it lies from block base on. -/
def Buf (w : World) (base : Nat) (v : Value) (n : Nat) (xs : List Value) : Prop :=
  xs.length = n ∧
  ((v = .slice none 0 0 ∧ n = 0) ∨
   ∃ g off cap, v = .slice (some ⟨g, off, none⟩) n cap ∧ base ≤ g ∧ g < w.heap.size ∧ n ≤ cap ∧ cap ≤ maxLen ∧
     (∀ j u, xs[j]? = some u → w.cell? ⟨g, off + j, none⟩ = some u) ∧
     (∀ j, n ≤ j → j < cap → (w.cell? ⟨g, off + j, none⟩).isSome = true ∧ w.frozen? ⟨g, off + j, none⟩ = false))

section
variable {w w' : World} {base n : Nat} {v : Value} {xs : List Value}
theorem Buf.nil (w : World) (base : Nat) : Buf w base (.slice none 0 0) 0 [] := ⟨rfl, .inl ⟨rfl, rfl⟩⟩
theorem Buf.len (h : Buf w base v n xs) : xs.length = n := h.1
theorem Buf.of_own {e : TypeId} (h : w.ownsRow base e 1 v n xs) : Buf w base v n xs := by
  refine ⟨by simpa using h.1, ?_⟩
  have hc := h
  rcases h.2 with ⟨rfl, hn⟩ | ⟨g, cap, cur, rfl, hb, hg, hnc, hcm, hcs, htake⟩
  · exact .inl ⟨rfl, hn⟩
  · have hlt : g < w.heap.size := (Array.getElem?_eq_some_iff.1 hg).1
    refine .inr ⟨g, 0, cap, rfl, hb, hlt, hnc, hcm, fun j u hu => ?_, fun j hj1 hj2 => ?_⟩
    · have := hc.cells (g := g) rfl j u hu
      rwa [Addr.add_lit] at this
    · have hlt2 : 0 + j < cur.size := by omega
      constructor
      · simp [World.cell?, hg, hlt2]; omega
      · simp [World.frozen?, hg]
theorem Buf.base_le {base' : Nat} (h : Buf w base v n xs) (hb : base' ≤ base) : Buf w base' v n xs :=
  ⟨h.1, h.2.imp id fun ⟨g, off, cap, h1, h2, h3⟩ => ⟨g, off, cap, h1, Nat.le_trans hb h2, h3⟩⟩
theorem Buf.keep (h : Buf w base v n xs) (hs : w.heap.size ≤ w'.heap.size) (hk : ∀ k, v.ownBlock = some k → w'.heap[k]? = w.heap[k]?) : Buf w' base v n xs := by
  refine ⟨h.1, ?_⟩
  rcases h.2 with hn | ⟨g, off, cap, rfl, hb, hlt, hnc, hcm, hx, hsp⟩
  · exact .inl hn
  · have hg := hk g rfl
    refine .inr ⟨g, off, cap, rfl, hb, by omega, hnc, hcm, fun j u hu => ?_, fun j h1 h2 => ?_⟩
    · rw [World.cell?_of_block (w := w) hg]; exact hx j u hu
    · rw [World.cell?_of_block (w := w) (a := ⟨g, off + j, none⟩) hg, World.frozen?_of_block (w := w) (a := ⟨g, off + j, none⟩) hg]; exact hsp j h1 h2
theorem Buf.lt (h : Buf w base v n xs) : ∀ k, v.ownBlock = some k → base ≤ k ∧ k < w.heap.size := by
  intro k hk
  rcases h.2 with ⟨rfl, _⟩ | ⟨g, off, cap, rfl, hb, hlt, _⟩
  · simp [Value.ownBlock] at hk
  · simp [Value.ownBlock] at hk; subst hk; exact ⟨hb, hlt⟩
theorem Buf.alloc (h : Buf w base v n xs) (o : Obj) : Buf (w.alloc o) base v n xs :=
  h.keep (by simp) fun k hk => Below.heap_alloc w o k (h.lt k hk).2
theorem Buf.drew (h : Buf w base v n xs) : Buf w.drew base v n xs := h
theorem Buf.drewN (h : Buf w base v n xs) (k : Nat) : Buf (w.drewN k) base v n xs := h
theorem Buf.grown (h : Buf w base v n xs) {row : Option Nat} (hg : w.grownBy w' row) (hne : ∀ k, v.ownBlock = some k → some k ≠ row) : Buf w' base v n xs :=
  h.keep hg.size fun k hk => hg.block k (h.lt k hk).2 (hne k hk)
theorem Buf.below {B : Nat} (h : Buf w base v n xs) (hb : Below B w w') (hlt : ∀ k, v.ownBlock = some k → k < B) : Buf w' base v n xs :=
  h.keep hb.size fun k hk => hb.block k (hlt k hk)
theorem Buf.cap_le {A : Option Addr} {c : Nat} (h : Buf w base (.slice A n c) n xs) : c ≤ maxLen := by
  rcases h.2 with ⟨e, rfl⟩ | ⟨g, off, cap, e, hb, hlt, hnc, hcm, hx, hsp⟩
  · injection e with _ _ e; subst e; exact Nat.zero_le _
  · injection e with _ _ e; subst e; exact hcm
/-- As a slice that is read. -/
theorem Buf.slice (h : Buf w base v n xs) : ∃ A c, v = .slice A n c ∧ n ≤ c ∧ Rd w w.heap.size A n xs := by
  rcases h.2 with ⟨rfl, rfl⟩ | ⟨g, off, cap, rfl, hb, hlt, hnc, hcm, hx, hsp⟩
  · have : xs = [] := List.eq_nil_of_length_eq_zero h.1
    subst this
    exact ⟨none, 0, rfl, by omega, Rd.nil⟩
  · exact ⟨_, cap, rfl, hnc, h.1, fun _ => ⟨g, off, rfl, hlt, hx⟩⟩
end

/-- A row that the call has just laid, full to its end, whatever its mark. -/
theorem Buf.new (w : World) (base : Nat) (e : TypeId) (C : Array Value) (fr : Nat × Nat) (hb : base ≤ w.heap.size) (hm : C.size ≤ maxLen) :
    Buf (w.alloc (.cells C e fr)) base (.slice (some ⟨w.heap.size, 0, none⟩) C.size C.size) C.size C.toList := by
  refine ⟨by simp, .inr ⟨w.heap.size, 0, C.size, rfl, hb, by simp, Nat.le_refl _, hm, fun j u hu => ?_, fun j h1 h2 => absurd h2 (by omega)⟩⟩
  rw [Nat.zero_add, World.cell?_alloc_mark]
  simpa using hu

theorem heap_setCells (b : Nat) : ∀ (vs : List Value) (o : Nat) (w : World) (k : Nat), k ≠ b → (w.setCells b o vs).heap[k]? = w.heap[k]?
  | [], _, _, _, _ => rfl
  | v :: r, o, w, k, h => by
    show ((w.setCell ⟨b, o, none⟩ v).setCells b (o + 1) r).heap[k]? = _
    rw [heap_setCells b r (o + 1) _ k h, Below.heap_setCell w ⟨b, o, none⟩ v k h]
theorem size_setCells (b : Nat) : ∀ (vs : List Value) (o : Nat) (w : World), (w.setCells b o vs).heap.size = w.heap.size
  | [], _, _ => rfl
  | v :: r, o, w => by
    show ((w.setCell ⟨b, o, none⟩ v).setCells b (o + 1) r).heap.size = _
    rw [size_setCells b r (o + 1) _]; simp
theorem rest_setCells (b : Nat) : ∀ (vs : List Value) (o : Nat) (w : World), (w.setCells b o vs).os = w.os ∧ (w.setCells b o vs).tape = w.tape ∧ (w.setCells b o vs).output = w.output
  | [], _, _ => ⟨rfl, rfl, rfl⟩
  | v :: r, o, w => by
    show ((w.setCell ⟨b, o, none⟩ v).setCells b (o + 1) r).os = _ ∧ ((w.setCell ⟨b, o, none⟩ v).setCells b (o + 1) r).tape = _ ∧ ((w.setCell ⟨b, o, none⟩ v).setCells b (o + 1) r).output = _
    have := rest_setCells b r (o + 1) (w.setCell ⟨b, o, none⟩ v)
    exact ⟨this.1, this.2.1, this.2.2⟩

section
variable {P : Program} (w : World)

theorem run_append_buf (base : Nat) (t ty e : TypeId) (i : TypeInfo) (z : Value) (bytes : Nat) (ht : P.underlying t = some (.slice e)) (hi : P.info? e = some i) (hz : i.zero = some z)
    (hsize : i.size = 1) (hby : i.bytes = bytes) (hzs : z.cells.size = 1)
    {v : Value} {n : Nat} {xs : List Value} (hbuf : Buf w base v n xs)
    {B : Nat} {A : Option Addr} {m c : Nat} {news : List Value} (hr : Rd w B A m news) (h1 : ∀ u ∈ news, u.oneCell' = true)
    (h63 : n + m ≤ maxLen) (hbytes : (n + m) * bytes ≤ 140737488355328) (hbase : base ≤ w.heap.size) :
    ∃ v' w', (Builtin.append_ #[t, t] ty #[v, .slice A m c]).run P w = .ok v' w' ∧ Buf w' base v' (n + m) (xs ++ news) ∧ w.grownBy w' v.ownBlock ∧
      (v'.ownBlock = v.ownBlock ∨ ∀ k, v'.ownBlock = some k → w.heap.size ≤ k) := by
  have hlen : (xs ++ news).length = n + m := by rw [List.length_append, hbuf.1, hr.1]
  rcases Nat.eq_zero_or_pos m with hm | hm
  · -- nothing is laid on
    subst hm
    have hn : news = [] := List.eq_nil_of_length_eq_zero hr.1
    subst hn
    have hg : w.grownBy w v.ownBlock := ⟨rfl, rfl, rfl, Nat.le_refl _, fun _ _ _ => rfl⟩
    have hrun : (Builtin.append_ #[t, t] ty #[v, .slice A 0 c]).run P w = .ok v w := by
      rcases hbuf.2 with ⟨rfl, rfl⟩ | ⟨g, off, cap, rfl, _, _, hnc, _⟩
      · cases A <;> simp [Builtin.append_, run_underlying ht, sizeOf, typeInfo, hi, Builtin.lenOf, Builtin.firstCells, loadCells, loadCellsFrom]
      · cases A <;> simp [Builtin.append_, run_underlying ht, sizeOf, typeInfo, hi, Builtin.lenOf, Builtin.firstCells, hnc, storeCells, loadCells, loadCellsFrom]
    exact ⟨v, w, hrun, by simpa using hbuf, hg, .inl rfl⟩
  · obtain ⟨ga, oa, rfl, hga, hcell⟩ := hr.2 hm
    have hnews : ∀ j u, news[j]? = some u → w.cell? ((⟨ga, oa, none⟩ : Addr).add j) = some u := fun j u hu => by rw [Addr.add_lit]; exact hcell j u hu
    have hl : news.length = m * 1 := by rw [hr.1, Nat.mul_one]
    rcases hbuf.2 with ⟨rfl, rfl⟩ | ⟨g, off, cap, rfl, hb, hlt, hnc, hcm, hx, hsp⟩
    · have hx0 : xs = [] := List.eq_nil_of_length_eq_zero hbuf.1
      subst hx0
      obtain ⟨v', w', hrun, ho, hg, _, hown⟩ := run_append_own_at (P := P) w base t ty e i z 1 bytes ht hi hz hsize hby hzs (by decide) (.slice none 0 0) 0 [] (World.ownsRow_nil w base e 1) ⟨ga, oa, none⟩ m c news hl hnews h1 h63 hbytes hbase
      exact ⟨v', w', hrun, Buf.of_own ho, hg, hown.imp id fun e' k hk => by rw [e'] at hk; injection hk with hk; omega⟩
    · by_cases hroom : n + m ≤ cap
      · have hrun := run_append_room_cells (P := P) w t ty e i ht hi g off n cap ⟨ga, oa, none⟩ m c news (by rw [hsize]; exact hl) hnews h1 hroom
          (fun j hj => by rw [hsize, Nat.mul_one, Nat.add_assoc]; exact (hsp (n + j) (by omega) (by rw [hr.1] at hj; omega)).1)
          (fun j hj => by rw [hsize, Nat.mul_one, Nat.add_assoc]; exact (hsp (n + j) (by omega) (by rw [hr.1] at hj; omega)).2)
        rw [hsize, Nat.mul_one] at hrun
        have hrest := rest_setCells g news (off + n) w
        refine ⟨_, _, hrun, ⟨hlen, .inr ⟨g, off, cap, rfl, hb, by rw [size_setCells]; exact hlt, hroom, hcm, fun j u hu => ?_, fun j j1 j2 => ?_⟩⟩,
          ⟨hrest.1, hrest.2.1, hrest.2.2, by rw [size_setCells]; exact Nat.le_refl _, fun k _ hk => heap_setCells g news (off + n) w k (fun e' => hk (by simp [Value.ownBlock, e']))⟩, .inl rfl⟩
        · by_cases hj : j < xs.length
          · rw [List.getElem?_append_left hj] at hu
            rw [World.cell?_setCells_out g news (off + n) w _ (fun _ _ => .inl (by show off + j < off + n; have := hbuf.1; omega))]
            exact hx j u hu
          · rw [List.getElem?_append_right (by omega)] at hu
            have hjn : j - xs.length < news.length := (List.getElem?_eq_some_iff.1 hu).1
            have := World.cell?_setCells_in g news (off + n) w (fun j' hj' => by rw [Nat.add_assoc]; exact (hsp (n + j') (by omega) (by rw [hr.1] at hj'; omega)).1) (j - xs.length) hjn
            have hbl := hbuf.1
            rw [show off + n + (j - xs.length) = off + j by omega] at this
            rw [this, ← hu, List.getElem?_eq_getElem hjn]
        · rw [World.cell?_setCells_out g news (off + n) w _ (fun _ _ => .inr (by show off + n + news.length ≤ off + j; rw [hr.1]; omega)), World.frozen?_setCells]
          exact hsp j (by omega) j2
      · obtain ⟨v', w', hrun, ho, hg⟩ := run_append_arg_grows (P := P) w t ty e i z 1 bytes ht hi hz hsize hby hzs (by decide) ⟨g, off, none⟩ n cap xs (by rw [hbuf.1, Nat.mul_one])
          (fun j u hu => by rw [Addr.add_lit]; exact hx j u hu) ⟨ga, oa, none⟩ m c news hl hnews (by omega) h63 hbytes
        exact ⟨v', w', hrun, (Buf.of_own ho).base_le hbase, ⟨hg.os, hg.tape, hg.output, hg.size, fun k hk _ => hg.block k hk (by simp)⟩, .inr fun k hk => ((Buf.of_own ho).lt k hk).1⟩

/-- The walk's law: 'v = append(v, xs...)'. -/
theorem wpList_append_buf {ops : Array Oper} {rest : List Oper} {o : Oper} {a : Act} {Q : Exit → Act → World → Prop} (hgd : o.guard = none) (s x : Operand) (t : TypeId)
    (ho : o.op = .call { callee := .builtin .append, args := #[s, x], argTypes := #[t, t] })
    (base : Nat) (e : TypeId) (i : TypeInfo) (z : Value) (bytes : Nat) (ht : P.underlying t = some (.slice e)) (hi : P.info? e = some i) (hz : i.zero = some z)
    (hsize : i.size = 1) (hby : i.bytes = bytes) (hzs : z.cells.size = 1)
    {v : Value} {n : Nat} {xs : List Value} (hs : a.eval s = v) (hbuf : Buf w base v n xs)
    {B : Nat} {A : Option Addr} {m c : Nat} {news : List Value} (hx : a.eval x = .slice A m c) (hr : Rd w B A m news) (h1 : ∀ u ∈ news, u.oneCell' = true)
    (h63 : n + m ≤ maxLen) (hbytes : (n + m) * bytes ≤ 140737488355328) (hbase : base ≤ w.heap.size)
    (hK : ∀ v' w', Buf w' base v' (n + m) (xs ++ news) → w.grownBy w' v.ownBlock → (v'.ownBlock = v.ownBlock ∨ ∀ k, v'.ownBlock = some k → w.heap.size ≤ k) → wpList P ops Q rest (a.put o.dst v') w') :
    wpList P ops Q (o :: rest) a w := by
  refine wpList_plain hgd fun K hK' => ?_
  obtain ⟨v', w', hrun, r1, r2, r3⟩ := run_append_buf (P := P) w base t o.type e i z bytes ht hi hz hsize hby hzs hbuf (c := c) hr h1 h63 hbytes hbase
  unfold Oper.wp
  simp [execOp, ho, resolve, invoke, builtin, hs, hx, hrun, Result.andThen]
  exact hK' _ _ (hK v' w' r1 r2 r3)

/-- .. of one element that the text has just laid in a row of its own: said of the world ahead of that row. -/
theorem wpList_append_one {ops : Array Oper} {rest : List Oper} {o : Oper} {a : Act} {Q : Exit → Act → World → Prop} (hgd : o.guard = none) (s x : Operand) (t : TypeId)
    (ho : o.op = .call { callee := .builtin .append, args := #[s, x], argTypes := #[t, t] })
    (base : Nat) (e : TypeId) (i : TypeInfo) (z : Value) (bytes : Nat) (ht : P.underlying t = some (.slice e)) (hi : P.info? e = some i) (hz : i.zero = some z)
    (hsize : i.size = 1) (hby : i.bytes = bytes) (hzs : z.cells.size = 1)
    {v : Value} {n : Nat} {xs : List Value} (hs : a.eval s = v) (hbuf : Buf w base v n xs)
    {u : Value} (hx : a.eval x = .slice (some ⟨w.heap.size, 0, none⟩) 1 1) (h1 : u.oneCell' = true)
    (h63 : n + 1 ≤ maxLen) (hbytes : (n + 1) * bytes ≤ 140737488355328) (hbase : base ≤ w.heap.size)
    (hK : ∀ v' w', Buf w' base v' (n + 1) (xs ++ [u]) → w.grownBy w' v.ownBlock → (v'.ownBlock = v.ownBlock ∨ ∀ k, v'.ownBlock = some k → w.heap.size ≤ k) → wpList P ops Q rest (a.put o.dst v') w') :
    wpList P ops Q (o :: rest) a (w.alloc (.cells #[u] e)) := by
  have hr : Rd (w.alloc (.cells #[u] e)) (w.heap.size + 1) (some ⟨w.heap.size, 0, none⟩) 1 [u] :=
    ⟨rfl, fun _ => ⟨_, _, rfl, Nat.lt_succ_self _, fun j u' hu => by
      have := cell_one_new w u e j u' hu
      rwa [Addr.add_lit] at this⟩⟩
  refine wpList_append_buf (P := P) _ hgd s x t ho base e i z bytes ht hi hz hsize hby hzs hs (hbuf.alloc _) hx hr (by simpa using h1) h63 hbytes (by simp; omega) ?_
  intro v' w' r1 r2 r3
  refine hK v' w' r1 ((World.grownBy_alloc w _ _).trans r2) (r3.imp id fun h k hk => ?_)
  have := h k hk
  simp at this
  omega
end

/-- What laying leaves: v' in w' holds xs', where v in w was laid on; all old blocks but v's own are as they were. -/
structure Laid (w : World) (base : Nat) (v : Value) (w' : World) (v' : Value) (n' : Nat) (xs' : List Value) : Prop where
  buf : Buf w' base v' n' xs'
  grown : w.grownBy w' v.ownBlock
  own : v'.ownBlock = v.ownBlock ∨ ∀ k, v'.ownBlock = some k → w.heap.size ≤ k

theorem Laid.refl {w : World} {base : Nat} {v : Value} {n : Nat} {xs : List Value} (h : Buf w base v n xs) : Laid w base v w v n xs :=
  ⟨h, ⟨rfl, rfl, rfl, Nat.le_refl _, fun _ _ _ => rfl⟩, .inl rfl⟩

theorem Laid.trans {w w1 w2 : World} {base : Nat} {v v1 v2 : Value} {n1 n2 : Nat} {xs1 xs2 : List Value} (h : Laid w base v w1 v1 n1 xs1) (k : Laid w1 base v1 w2 v2 n2 xs2) : Laid w base v w2 v2 n2 xs2 := by
  have hs1 := h.grown.size
  refine ⟨k.buf, ⟨k.grown.os.trans h.grown.os, k.grown.tape.trans h.grown.tape, k.grown.output.trans h.grown.output, Nat.le_trans h.grown.size k.grown.size, fun i hi hne => ?_⟩, ?_⟩
  · refine (k.grown.block i (by omega) ?_).trans (h.grown.block i hi hne)
    rcases h.own with e | e
    · rw [e]; exact hne
    · intro e'
      have := e i e'.symm
      omega
  · rcases k.own with e | e
    · rcases h.own with e1 | e1
      · exact .inl (e.trans e1)
      · exact .inr fun i hi => e1 i (by rw [← e]; exact hi)
    · exact .inr fun i hi => Nat.le_trans hs1 (e i hi)

theorem Laid.alloc {w : World} {base : Nat} {v : Value} {w' : World} {v' : Value} {n' : Nat} {xs' : List Value} (h : Laid w base v w' v' n' xs') (o : Obj) : Laid w base v (w'.alloc o) v' n' xs' :=
  ⟨h.buf.alloc o, h.grown.trans (World.grownBy_alloc _ _ _), h.own⟩
theorem Laid.drew {w : World} {base : Nat} {v : Value} {w' : World} {v' : Value} {n' : Nat} {xs' : List Value} (h : Laid w base v w' v' n' xs') : Laid w base v w'.drew v' n' xs' :=
  ⟨h.buf, ⟨h.grown.os, h.grown.tape, h.grown.output, h.grown.size, h.grown.block⟩, h.own⟩

theorem Laid.below {w : World} {base : Nat} {v : Value} {w' : World} {v' : Value} {n' n : Nat} {xs' xs : List Value} (h : Laid w base v w' v' n' xs') (hb : Buf w base v n xs) (hB : base ≤ w.heap.size) : Below base w w' :=
  (Below.refl _ _).grown h.grown hB fun k hk => (hb.lt k hk).1

/-- Bytes as cells. -/
def bys (l : List Nat) : List Value := l.map fun (c : Nat) => Value.int .u8 (c : Int)
theorem bys_app (a b : List Nat) : bys (a ++ b) = bys a ++ bys b := by simp [bys]
theorem bys_len (a : List Nat) : (bys a).length = a.length := by simp [bys]
theorem bys_one (a : List Nat) : ∀ u ∈ bys a, u.oneCell' = true := by
  intro u hu
  simp only [bys, List.mem_map] at hu
  obtain ⟨c, _, rfl⟩ := hu
  rfl
theorem bys_get (l : List Nat) (k : Nat) (h : k < l.length) : (bys l)[k]? = some (.int .u8 ((l.getD k 0 : Nat) : Int)) := by
  simp [bys, h, List.getD]
end Go.Proofs.Ytkdkihacpjhgmaa
