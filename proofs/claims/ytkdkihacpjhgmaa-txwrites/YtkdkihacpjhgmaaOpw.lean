/- Words of my own on appends in regions that draw, own rows, slices cut. -/
import Derived.Test.YtkdkihacpjhgmaaStr
import Derived.Deep.MidRow
import Derived.Laws.OwnMore
import Derived.Laws.Rows
import Derived.Deep.QuietTactic
namespace Go.Proofs.Ytkdkihacpjhgmaa
set_option linter.unusedSimpArgs false
set_option linter.unusedVariables false
open Go.RowKit

theorem getD_lt {bs : List Nat} (hb : ∀ c ∈ bs, c < 256) (j : Nat) : bs.getD j 0 < 256 := by
  by_cases h : j < bs.length
  · rw [List.getD_eq_getElem?_getD, List.getElem?_eq_getElem h]; exact hb _ (List.getElem_mem h)
  · rw [List.getD_eq_getElem?_getD, List.getElem?_eq_none (by omega)]; simp

/-- Two slices that lie in unlike blocks. -/
def Apart (v u : Value) : Prop := ∀ k, v.ownBlock = some k → u.ownBlock ≠ some k
theorem Apart.symm {v u : Value} (h : Apart v u) : Apart u v := fun k hk hv => h k hv hk
theorem Laid.other {w w' : World} {base : Nat} {v v' u : Value} {n' n : Nat} {xs' xs : List Value} (h : Laid w base v w' v' n' xs') (hu : Buf w base u n xs) (ha : Apart v u) : Buf w' base u n xs ∧ Apart v' u := by
  refine ⟨hu.grown h.grown fun k hk e => ha k e.symm hk, fun k hk hk' => ?_⟩
  rcases h.own with e | e
  · exact ha k (by rw [← e]; exact hk) hk'
  · have h1 := e k hk
    have h2 := (hu.lt k hk').2
    omega

/-- append of one element that the text has just laid in a row of its own, as one operation of a region that draws its order. -/
theorem operwp_append_one {P : Program} {w : World} {o : Oper} {a : Act} {Q : Exit → Act → World → Prop} {K : Act → World → Prop} {g : Bool} {E : Prop} (hgd : g = true) (s x : Operand) (t : TypeId)
    (ho : o.op = .call { callee := .builtin .append, args := #[s, x], argTypes := #[t, t] })
    (base : Nat) (e : TypeId) (i : TypeInfo) (z : Value) (bytes : Nat) (ht : P.underlying t = some (.slice e)) (hi : P.info? e = some i) (hz : i.zero = some z)
    (hsize : i.size = 1) (hby : i.bytes = bytes) (hzs : z.cells.size = 1)
    {v : Value} {n : Nat} {xs : List Value} (hs : a.eval s = v) (hbuf : Buf w base v n xs)
    {u : Value} (hx : a.eval x = .slice (some ⟨w.heap.size, 0, none⟩) 1 1) (h1 : u.oneCell' = true)
    (h63 : n + 1 ≤ maxLen) (hbytes : (n + 1) * bytes ≤ 140737488355328) (hbase : base ≤ w.heap.size)
    (hK : ∀ v' w', Buf w' base v' (n + 1) (xs ++ [u]) → w.grownBy w' v.ownBlock → (v'.ownBlock = v.ownBlock ∨ ∀ k, v'.ownBlock = some k → w.heap.size ≤ k) → K (a.put o.dst v') w') :
    if g = true then Oper.wp P o a (w.alloc (.cells #[u] e)) K Q else E := by
  have hr : Rd (w.alloc (.cells #[u] e)) (w.heap.size + 1) (some ⟨w.heap.size, 0, none⟩) 1 [u] :=
    ⟨rfl, fun _ => ⟨_, _, rfl, Nat.lt_succ_self _, fun j u' hu => by
      have := cell_one_new w u e j u' hu
      rwa [Addr.add_lit] at this⟩⟩
  obtain ⟨v', w', hrun, r1, r2, r3⟩ := run_append_buf (P := P) _ base t o.type e i z bytes ht hi hz hsize hby hzs (hbuf.alloc _) (c := 1) hr (by simpa using h1) h63 hbytes (by simp; omega)
  rw [if_pos hgd]
  unfold Oper.wp
  simp [execOp, ho, resolve, invoke, builtin, hs, hx, hrun, Result.andThen]
  refine hK v' w' r1 ((World.grownBy_alloc w _ _).trans r2) (r3.imp id fun h k hk => ?_)
  have := h k hk
  simp at this
  omega

theorem operwp_append_one_drew {P : Program} {w : World} {o : Oper} {a : Act} {Q : Exit → Act → World → Prop} {K : Act → World → Prop} {g : Bool} {E : Prop} (hgd : g = true) (s x : Operand) (t : TypeId)
    (ho : o.op = .call { callee := .builtin .append, args := #[s, x], argTypes := #[t, t] })
    (base : Nat) (e : TypeId) (i : TypeInfo) (z : Value) (bytes : Nat) (ht : P.underlying t = some (.slice e)) (hi : P.info? e = some i) (hz : i.zero = some z)
    (hsize : i.size = 1) (hby : i.bytes = bytes) (hzs : z.cells.size = 1)
    {v : Value} {n : Nat} {xs : List Value} (hs : a.eval s = v) (hbuf : Buf w base v n xs)
    {u : Value} (hx : a.eval x = .slice (some ⟨w.heap.size, 0, none⟩) 1 1) (h1 : u.oneCell' = true)
    (h63 : n + 1 ≤ maxLen) (hbytes : (n + 1) * bytes ≤ 140737488355328) (hbase : base ≤ w.heap.size)
    (hK : ∀ v' w', Buf w' base v' (n + 1) (xs ++ [u]) → w.grownBy w' v.ownBlock → (v'.ownBlock = v.ownBlock ∨ ∀ k, v'.ownBlock = some k → w.heap.size ≤ k) → K (a.put o.dst v') w') :
    if g = true then Oper.wp P o a (w.alloc (.cells #[u] e)).drew K Q else E :=
  operwp_append_one (w := w.drew) hgd s x t ho base e i z bytes ht hi hz hsize hby hzs hs hbuf.drew hx h1 h63 hbytes hbase
    fun v' w' r1 r2 r3 => hK v' w' r1 ⟨r2.os, r2.tape, r2.output, r2.size, r2.block⟩ r3

theorem operwp_append_buf {P : Program} {w : World} {o : Oper} {a : Act} {Q : Exit → Act → World → Prop} {K : Act → World → Prop} {g : Bool} {E : Prop} (hgd : g = true) (s x : Operand) (t : TypeId)
    (ho : o.op = .call { callee := .builtin .append, args := #[s, x], argTypes := #[t, t] })
    (base : Nat) (e : TypeId) (i : TypeInfo) (z : Value) (bytes : Nat) (ht : P.underlying t = some (.slice e)) (hi : P.info? e = some i) (hz : i.zero = some z)
    (hsize : i.size = 1) (hby : i.bytes = bytes) (hzs : z.cells.size = 1)
    {v : Value} {n : Nat} {xs : List Value} (hs : a.eval s = v) (hbuf : Buf w base v n xs)
    {B : Nat} {A : Option Addr} {m c : Nat} {news : List Value} (hx : a.eval x = .slice A m c) (hr : Rd w B A m news) (h1 : ∀ u ∈ news, u.oneCell' = true)
    (h63 : n + m ≤ maxLen) (hbytes : (n + m) * bytes ≤ 140737488355328) (hbase : base ≤ w.heap.size)
    (hK : ∀ v' w', Buf w' base v' (n + m) (xs ++ news) → w.grownBy w' v.ownBlock → (v'.ownBlock = v.ownBlock ∨ ∀ k, v'.ownBlock = some k → w.heap.size ≤ k) → K (a.put o.dst v') w') :
    if g = true then Oper.wp P o a w K Q else E := by
  obtain ⟨v', w', hrun, r1, r2, r3⟩ := run_append_buf (P := P) w base t o.type e i z bytes ht hi hz hsize hby hzs hbuf (c := c) hr h1 h63 hbytes hbase
  rw [if_pos hgd]
  unfold Oper.wp
  simp [execOp, ho, resolve, invoke, builtin, hs, hx, hrun, Result.andThen]
  exact hK v' w' r1 r2 r3

theorem Rd.drop {w : World} {B : Nat} {A : Option Addr} {n : Nat} {xs : List Value} (h : Rd w B A n xs) (k c : Nat) (hk : k ≤ n) (hc : n ≤ c) :
    Rd w B (if c = k then A else A.map (·.add k)) (n - k) (xs.drop k) := by
  refine ⟨by rw [List.length_drop, h.1], fun hp => ?_⟩
  obtain ⟨g, off, e, hB, hcell⟩ := h.2 (by omega)
  rw [if_neg (by omega)]
  refine ⟨g, off + k, by rw [e]; simp [Addr.add_lit], hB, fun j u hu => ?_⟩
  rw [List.getElem?_drop] at hu
  have := hcell _ u hu
  rwa [← Nat.add_assoc] at this

theorem own_keep {w w' : World} {base : Nat} {e : TypeId} {v : Value} {n : Nat} {xs : List Value} (h : w.ownsRow base e 1 v n xs) (hk : ∀ k, v.ownBlock = some k → w'.heap[k]? = w.heap[k]?) : w'.ownsRow base e 1 v n xs := by
  refine ⟨h.1, h.2.imp id ?_⟩
  rintro ⟨g, cap, cur, rfl, hb, hg, rest⟩
  exact ⟨g, cap, cur, rfl, hb, (hk g rfl).trans hg, rest⟩
theorem own_lt {w : World} {base : Nat} {e : TypeId} {v : Value} {n : Nat} {xs : List Value} (h : w.ownsRow base e 1 v n xs) : ∀ k, v.ownBlock = some k → base ≤ k ∧ k < w.heap.size := (Buf.of_own h).lt
theorem own_below {w w' : World} {base B : Nat} {e : TypeId} {v : Value} {n : Nat} {xs : List Value} (h : w.ownsRow base e 1 v n xs) (hb : Below B w w') (hlt : ∀ k, v.ownBlock = some k → k < B) : w'.ownsRow base e 1 v n xs :=
  own_keep h fun k hk => hb.block k (hlt k hk)
theorem own_open {w : World} {base : Nat} {e : TypeId} {v : Value} {n : Nat} {xs : List Value} (h : w.ownsRow base e 1 v n xs) (hn : 0 < n) :
    ∃ g cap, v = .slice (some ⟨g, 0, none⟩) n cap ∧ base ≤ g ∧ g < w.heap.size ∧ n ≤ cap ∧ cap ≤ maxLen := by
  have hl := own_lt h
  rcases h.2 with ⟨_, h0⟩ | ⟨g, cap, cur, rfl, hb, hg, hnc, hcm, _⟩
  · omega
  · exact ⟨g, cap, rfl, hb, (hl g rfl).2, hnc, hcm⟩

theorem own_rd {w : World} {base : Nat} {e : TypeId} {g n cap : Nat} {xs : List Value} (h : w.ownsRow base e 1 (.slice (some ⟨g, 0, none⟩) n cap) n xs) : Rd w w.heap.size (some ⟨g, 0, none⟩) n xs := by
  have hl : xs.length = n := by have := h.1; omega
  refine ⟨hl, fun hn => ⟨g, 0, rfl, (own_lt h g rfl).2, fun j u hu => ?_⟩⟩
  have hj : j < xs.length := (List.getElem?_eq_some_iff.1 hu).1
  rw [Nat.zero_add, h.cellAt j (by omega), hu]


/-- What 'make' lays: n cells live, cap in all. -/
theorem Buf.made (w : World) (base : Nat) (e : TypeId) (n cap : Nat) (z : Value) (hb : base ≤ w.heap.size) (hm : cap ≤ maxLen) (hn : n ≤ cap) :
    Buf (w.alloc (.cells (Array.replicate cap z) e)) base (.slice (some ⟨w.heap.size, 0, none⟩) n cap) n (List.replicate n z) := by
  refine ⟨by simp, .inr ⟨w.heap.size, 0, cap, rfl, hb, by simp, hn, hm, fun j u hu => ?_, fun j h1 h2 => ?_⟩⟩
  · rw [Nat.zero_add, World.cell?_alloc_mark]
    have hj : j < n := by have := (List.getElem?_eq_some_iff.1 hu).1; simpa using this
    rw [List.getElem?_replicate, if_pos hj] at hu
    rw [Array.getElem?_replicate, if_pos (by omega)]; exact hu
  · constructor
    · rw [Nat.zero_add, World.cell?_alloc_mark, Array.getElem?_replicate, if_pos h2]; rfl
    · unfold World.frozen?
      rw [heap_alloc_new]; simp


/-- append of some elements that the text has just laid in a row of their own, in a region that draws. -/
theorem operwp_append_lit_drew {P : Program} {w : World} {o : Oper} {a : Act} {Q : Exit → Act → World → Prop} {K : Act → World → Prop} {g : Bool} {E : Prop} (hgd : g = true) (s x : Operand) (t : TypeId)
    (ho : o.op = .call { callee := .builtin .append, args := #[s, x], argTypes := #[t, t] })
    (base : Nat) (e : TypeId) (i : TypeInfo) (z : Value) (bytes : Nat) (ht : P.underlying t = some (.slice e)) (hi : P.info? e = some i) (hz : i.zero = some z)
    (hsize : i.size = 1) (hby : i.bytes = bytes) (hzs : z.cells.size = 1)
    {v : Value} {n : Nat} {xs : List Value} (hs : a.eval s = v) (hbuf : Buf w base v n xs)
    {C : Array Value} {m : Nat} (hm : C.size = m) (hx : a.eval x = .slice (some ⟨w.heap.size, 0, none⟩) m m) (h1 : ∀ u ∈ C.toList, u.oneCell' = true)
    (h63 : n + m ≤ maxLen) (hbytes : (n + m) * bytes ≤ 140737488355328) (hbase : base ≤ w.heap.size)
    (hK : ∀ v' w', Buf w' base v' (n + m) (xs ++ C.toList) → w.grownBy w' v.ownBlock → (v'.ownBlock = v.ownBlock ∨ ∀ k, v'.ownBlock = some k → w.heap.size ≤ k) → K (a.put o.dst v') w') :
    if g = true then Oper.wp P o a (w.alloc (.cells C e)).drew K Q else E := by
  subst hm
  have hr : Rd (w.alloc (.cells C e)).drew (w.heap.size + 1) (some ⟨w.heap.size, 0, none⟩) C.size C.toList :=
    ⟨by simp, fun _ => ⟨_, _, rfl, Nat.lt_succ_self _, fun j u' hu => by
      show (w.alloc (.cells C e)).cell? _ = _
      rw [Nat.zero_add, World.cell?_alloc_mark]; simpa using hu⟩⟩
  refine operwp_append_buf hgd s x t ho base e i z bytes ht hi hz hsize hby hzs hs (hbuf.alloc _).drew hx hr h1 h63 hbytes (by show base ≤ (w.alloc _).heap.size; simp; omega) fun v' w' r1 r2 r3 => ?_
  have r2' : (w.alloc (.cells C e)).grownBy w' v.ownBlock := ⟨r2.os, r2.tape, r2.output, r2.size, r2.block⟩
  refine hK v' w' r1 ((World.grownBy_alloc w _ _).trans r2') (r3.imp id fun h k hk => ?_)
  have := h k hk
  have e1 : (w.alloc (.cells C e)).drew.heap.size = w.heap.size + 1 := by show (w.alloc _).heap.size = _; simp
  omega

/-- An array that the call boxed, element by element. -/
theorem cell_boxed (w : World) (l : List Value) (e : TypeId) (i : Nat) (u : Value) (h : l[i]? = some u) : (w.alloc (.cells l.toArray e)).cell? ⟨w.heap.size, i, none⟩ = some u := by
  rw [World.cell?_alloc_mark]; simpa using h

theorem quiet_same {P : Program} {f : FuncId} {args : Array Value} {w : World} {n : Nat} {v : Value}
    (h : Calls P f args (w.drewN n) fun e w' => e = .returned v ∧ w.drewN n = w') : Calls P f args (w.drewN n) fun e w'' => e = .returned v ∧ ∃ m, w'' = w.drewN m :=
  h.mono fun _ _ ⟨he, hm⟩ => ⟨he, n, hm.symm⟩

section
variable {P : Program} (w : World)
theorem run_slice_lh (t e : TypeId) (i : TypeInfo) (ht : P.underlying t = some (.slice e)) (hi : P.info? e = some i) (hs : i.size = 1) (A : Option Addr) (n c l h : Nat) (hl : l ≤ h) (hc : h ≤ c) (kl kh : IntKind) (L H : Int) (hL : L = l) (hH : H = h) :
    (Instr.slice t (.slice A n c) (some (.int kl L)) (some (.int kh H)) none).run P w = .ok (.slice (if c = l then A else A.map (·.add l)) (h - l) (c - l)) w := by
  subst hL; subst hH
  have e1 : (Instr.sliceBound (.int kh (h : Int)) c .sliceAcap).run P w = .ok h w := by simp [Instr.sliceBound, asIntOf]; omega
  have e2 : (Instr.sliceBound (.int kl (l : Int)) h .sliceB).run P w = .ok l w := by simp [Instr.sliceBound, asIntOf]; omega
  simp [Instr.slice, run_underlying ht, Instr.sliceBounds, e1, e2, sizeOf, typeInfo, hi, hs]
theorem run_slice_l (t e : TypeId) (i : TypeInfo) (ht : P.underlying t = some (.slice e)) (hi : P.info? e = some i) (hs : i.size = 1) (A : Option Addr) (n c l : Nat) (hl : l ≤ n) (kl : IntKind) (L : Int) (hL : L = l) :
    (Instr.slice t (.slice A n c) (some (.int kl L)) none none).run P w = .ok (.slice (if c = l then A else A.map (·.add l)) (n - l) (c - l)) w := by
  subst hL
  have e2 : (Instr.sliceBound (.int kl (l : Int)) n .sliceB).run P w = .ok l w := by simp [Instr.sliceBound, asIntOf]; omega
  simp [Instr.slice, run_underlying ht, Instr.sliceBounds, e2, sizeOf, typeInfo, hi, hs]
theorem run_slice_h (t e : TypeId) (i : TypeInfo) (ht : P.underlying t = some (.slice e)) (hi : P.info? e = some i) (hs : i.size = 1) (A : Option Addr) (n c h : Nat) (hc : h ≤ c) (kh : IntKind) (H : Int) (hH : H = h) :
    (Instr.slice t (.slice A n c) none (some (.int kh H)) none).run P w = .ok (.slice A h c) w := by
  subst hH
  have e1 : (Instr.sliceBound (.int kh (h : Int)) c .sliceAcap).run P w = .ok h w := by simp [Instr.sliceBound, asIntOf]; omega
  have e3 : A.map (·.add 0) = A := by cases A <;> simp [Addr.add]
  simp [Instr.slice, run_underlying ht, Instr.sliceBounds, e1, sizeOf, typeInfo, hi, hs, e3]
end
/-- The part from l to h. -/
theorem Rd.mid {w : World} {B : Nat} {A : Option Addr} {n : Nat} {xs : List Value} (r : Rd w B A n xs) (l h c : Nat) (hl : l ≤ h) (hh : h ≤ n) (hc : n ≤ c) :
    Rd w B (if c = l then A else A.map (·.add l)) (h - l) ((xs.drop l).take (h - l)) := by
  by_cases e : c = l
  · have : h - l = 0 := by omega
    rw [this]; simp; exact Rd.nil
  · have := (r.drop l c (by omega) hc)
    exact this.take (h - l) (by omega)
end Go.Proofs.Ytkdkihacpjhgmaa
