/- append: what was laid on reads as before. -/
import Derived.Test.YtkokbpifjpmhlaaDoorOpw
namespace Go.Proofs.YtkokbpifjpmhlaaDoor
set_option linter.unusedSimpArgs false
set_option linter.unusedVariables false
open Go.RowKit

section
variable {P : Program} (w : World)

theorem run_append_keep (base : Nat) (t ty e : TypeId) (i : TypeInfo) (z : Value) (bytes : Nat) (ht : P.underlying t = some (.slice e)) (hi : P.info? e = some i) (hz : i.zero = some z)
    (hsize : i.size = 1) (hby : i.bytes = bytes) (hzs : z.cells.size = 1)
    {v : Value} {n : Nat} {xs : List Value} (hbuf : Buf w base v n xs)
    {B : Nat} {A : Option Addr} {m c : Nat} {news : List Value} (hr : Rd w B A m news) (h1 : ∀ u ∈ news, u.oneCell' = true)
    (h63 : n + m ≤ maxLen) (hbytes : (n + m) * bytes ≤ 140737488355328) (hbase : base ≤ w.heap.size) {v' : Value} {w' : World}
    (hrun : (Builtin.append_ #[t, t] ty #[v, .slice A m c]).run P w = .ok v' w') (A0 : Option Addr) (c0 : Nat) (hv : v = .slice A0 n c0) : Rd w' w.heap.size A0 n xs := by
  have hx : Rd w w.heap.size A0 n xs := by
    obtain ⟨A1, c1, e1, _, h⟩ := hbuf.slice
    rw [hv] at e1
    injection e1 with e1
    rw [e1]; exact h
  rcases Nat.eq_zero_or_pos n with hn0 | hn0
  · subst hn0
    have : xs = [] := List.eq_nil_of_length_eq_zero hbuf.1
    subst this
    exact Rd.nil
  rcases Nat.eq_zero_or_pos m with hm | hm
  · subst hm
    have hn : news = [] := List.eq_nil_of_length_eq_zero hr.1
    subst hn
    have hrun2 : (Builtin.append_ #[t, t] ty #[v, .slice A 0 c]).run P w = .ok v w := by
      rcases hbuf.2 with ⟨rfl, rfl⟩ | ⟨g, off, cap, rfl, _, _, hnc, _⟩
      · cases A <;> simp [Builtin.append_, run_underlying ht, sizeOf, typeInfo, hi, Builtin.lenOf, Builtin.firstCells, loadCells, loadCellsFrom]
      · cases A <;> simp [Builtin.append_, run_underlying ht, sizeOf, typeInfo, hi, Builtin.lenOf, Builtin.firstCells, hnc, storeCells, loadCells, loadCellsFrom]
    rw [hrun2] at hrun
    injection hrun with _ hw
    subst hw
    exact hx
  · obtain ⟨ga, oa, rfl, hga, hcell⟩ := hr.2 hm
    have hnews : ∀ j u, news[j]? = some u → w.cell? ((⟨ga, oa, none⟩ : Addr).add j) = some u := fun j u hu => by rw [Addr.add_lit]; exact hcell j u hu
    have hl : news.length = m * 1 := by rw [hr.1, Nat.mul_one]
    rcases hbuf.2 with ⟨rfl, rfl⟩ | ⟨g, off, cap, rfl, hb, hlt, hnc, hcm, hxc, hsp⟩
    · omega
    · injection hv with hv1
      subst hv1
      by_cases hroom : n + m ≤ cap
      · have hrun2 := run_append_room_cells (P := P) w t ty e i ht hi g off n cap ⟨ga, oa, none⟩ m c news (by rw [hsize]; exact hl) hnews h1 hroom
          (fun j hj => by rw [hsize, Nat.mul_one, Nat.add_assoc]; exact (hsp (n + j) (by omega) (by rw [hr.1] at hj; omega)).1)
          (fun j hj => by rw [hsize, Nat.mul_one, Nat.add_assoc]; exact (hsp (n + j) (by omega) (by rw [hr.1] at hj; omega)).2)
        rw [hsize, Nat.mul_one] at hrun2
        rw [hrun2] at hrun
        injection hrun with _ hw
        subst hw
        refine ⟨hbuf.1, fun _ => ⟨g, off, rfl, hlt, fun j u hu => ?_⟩⟩
        have hj : j < xs.length := (List.getElem?_eq_some_iff.1 hu).1
        rw [World.cell?_setCells_out g news (off + n) w _ (fun _ _ => .inl (by show off + j < off + n; have := hbuf.1; omega))]
        exact hxc j u hu
      · obtain ⟨v2, w2, hrun2, ho, hg⟩ := run_append_arg_grows (P := P) w t ty e i z 1 bytes ht hi hz hsize hby hzs (by decide) ⟨g, off, none⟩ n cap xs (by rw [hbuf.1, Nat.mul_one])
          (fun j u hu => by rw [Addr.add_lit]; exact hxc j u hu) ⟨ga, oa, none⟩ m c news hl hnews (by omega) h63 hbytes
        rw [hrun2] at hrun
        injection hrun with _ hw
        subst hw
        exact hx.grown hg (Nat.le_refl _) (fun _ h => by cases h)
end

/-- append of some elements that the text has just laid in a row of their own, in a region that draws; what was laid on still reads. -/
theorem operwp_append_lit_keep {P : Program} {w : World} {o : Oper} {a : Act} {Q : Exit → Act → World → Prop} {K : Act → World → Prop} {g : Bool} {E : Prop} (hgd : g = true) (s x : Operand) (t : TypeId)
    (ho : o.op = .call { callee := .builtin .append, args := #[s, x], argTypes := #[t, t] })
    (base : Nat) (e : TypeId) (i : TypeInfo) (z : Value) (bytes : Nat) (ht : P.underlying t = some (.slice e)) (hi : P.info? e = some i) (hz : i.zero = some z)
    (hsize : i.size = 1) (hby : i.bytes = bytes) (hzs : z.cells.size = 1)
    {A0 : Option Addr} {c0 n : Nat} {xs : List Value} (hs : a.eval s = .slice A0 n c0) (hbuf : Buf w base (.slice A0 n c0) n xs)
    {C : Array Value} {m : Nat} (hm : C.size = m) (hx : a.eval x = .slice (some ⟨w.heap.size, 0, none⟩) m m) (h1 : ∀ u ∈ C.toList, u.oneCell' = true)
    (h63 : n + m ≤ maxLen) (hbytes : (n + m) * bytes ≤ 140737488355328) (hbase : base ≤ w.heap.size)
    (hK : ∀ v' w', Buf w' base v' (n + m) (xs ++ C.toList) → w.grownBy w' (Value.slice A0 n c0).ownBlock → (v'.ownBlock = (Value.slice A0 n c0).ownBlock ∨ ∀ k, v'.ownBlock = some k → w.heap.size ≤ k) →
      Rd w' w.heap.size A0 n xs → K (a.put o.dst v') w') :
    if g = true then Oper.wp P o a (w.alloc (.cells C e)).drew K Q else E := by
  subst hm
  have hr : Rd (w.alloc (.cells C e)).drew (w.heap.size + 1) (some ⟨w.heap.size, 0, none⟩) C.size C.toList :=
    ⟨by simp, fun _ => ⟨_, _, rfl, Nat.lt_succ_self _, fun j u' hu => by
      show (w.alloc (.cells C e)).cell? _ = _
      rw [Nat.zero_add, World.cell?_alloc_mark]; simpa using hu⟩⟩
  have hbuf2 := (hbuf.alloc (.cells C e)).drew
  have hb2 : base ≤ (w.alloc (.cells C e)).drew.heap.size := by show base ≤ (w.alloc _).heap.size; simp; omega
  obtain ⟨v', w', hrun, r1, r2, r3⟩ := run_append_buf (P := P) _ base t o.type e i z bytes ht hi hz hsize hby hzs hbuf2 (c := C.size) hr h1 h63 hbytes hb2
  have r4 := run_append_keep (P := P) _ base t o.type e i z bytes ht hi hz hsize hby hzs hbuf2 (c := C.size) hr h1 h63 hbytes hb2 hrun A0 c0 rfl
  rw [if_pos hgd]
  unfold Oper.wp
  simp [execOp, ho, resolve, invoke, builtin, hs, hx, hrun, Result.andThen]
  have r2' : (w.alloc (.cells C e)).grownBy w' (Value.slice A0 n c0).ownBlock := ⟨r2.os, r2.tape, r2.output, r2.size, r2.block⟩
  have e1 : (w.alloc (.cells C e)).drew.heap.size = w.heap.size + 1 := by show (w.alloc _).heap.size = _; simp
  refine hK v' w' r1 ((World.grownBy_alloc w _ _).trans r2') (r3.imp id fun h k hk => ?_) ?_
  · have := h k hk
    omega
  · refine ⟨r4.1, fun hp => ?_⟩
    obtain ⟨g', off, e2, _, hc⟩ := r4.2 hp
    refine ⟨g', off, e2, ?_, hc⟩
    have := hbuf.lt g' (by rw [e2]; rfl)
    exact this.2
end Go.Proofs.YtkokbpifjpmhlaaDoor
