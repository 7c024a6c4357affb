/- What MemAdds wants: a row laid anew with one more in its place. -/
import Derived.Test.YtgdkcnpgnmmliabO1
namespace Go.Proofs.Ytgdkcnpgnmmliab
set_option linter.unusedSimpArgs false
set_option linter.unusedVariables false
open Go.RowKit

theorem run_sliceN_l {P : Program} (w : World) (t e : TypeId) (i : TypeInfo) (s : Nat) (ht : P.underlying t = some (.slice e)) (hi : P.info? e = some i) (hs : i.size = s) (A : Option Addr) (n c l : Nat) (hl : l ≤ n) (kl : IntKind) (L : Int) (hL : L = l) :
    (Instr.slice t (.slice A n c) (some (.int kl L)) none none).run P w = .ok (.slice (if c = l then A else A.map (·.add (l * s))) (n - l) (c - l)) w := by
  subst hL
  have e2 : (Instr.sliceBound (.int kl (l : Int)) n .sliceB).run P w = .ok l w := by simp [Instr.sliceBound, asIntOf]; omega
  simp [Instr.slice, run_underlying ht, Instr.sliceBounds, e2, sizeOf, typeInfo, hi, hs]
theorem run_sliceN_h {P : Program} (w : World) (t e : TypeId) (i : TypeInfo) (s : Nat) (ht : P.underlying t = some (.slice e)) (hi : P.info? e = some i) (hs : i.size = s) (A : Option Addr) (n c h : Nat) (hc : h ≤ c) (kh : IntKind) (H : Int) (hH : H = h) :
    (Instr.slice t (.slice A n c) none (some (.int kh H)) none).run P w = .ok (.slice A h c) w := by
  subst hH
  have e1 : (Instr.sliceBound (.int kh (h : Int)) c .sliceAcap).run P w = .ok h w := by simp [Instr.sliceBound, asIntOf]; omega
  have e3 : A.map (·.add 0) = A := by cases A <;> simp [Addr.add]
  simp [Instr.slice, run_underlying ht, Instr.sliceBounds, e1, sizeOf, typeInfo, hi, hs, e3]

theorem grown_below {w w' : World} {v : Value} {b : Nat} (g : w.grownBy w' v.ownBlock) (hb : b ≤ w.heap.size) (hv : ∀ k, v.ownBlock = some k → b ≤ k) : Below b w w' :=
  ⟨g.os, g.tape, g.output, g.size, fun k hk => g.block k (by omega) (fun e => by have := hv k e.symm; omega)⟩

theorem row3 (w : World) (A : Option Addr) (c a : Nat) (M : List En) (y : En) (hr : RdN w w.heap.size 4 A M.length (flat M)) (ha : a ≤ M.length) (hc : M.length ≤ c) (hn : (M.length : Int) ≤ 60) :
    ∃ v10 w10 v12 w12 v13 w13, (∀ ty, (Builtin.append_ #[35, 35] ty #[.slice (some ⟨w.heap.size, 0, none⟩) 0 0, .slice A a c]).run Try.prog (w.alloc (.cells #[] 42)) = .ok v10 w10) ∧
      (∀ u, u = y.val → (Instr.buildSlice 35 1 #[(0, u)]).run Try.prog w10 = .ok (.slice (some ⟨w10.heap.size, 0, none⟩) 1 1) (w10.alloc (.cells y.cells.toArray 42))) ∧
      (∀ ty, (Builtin.append_ #[35, 35] ty #[v10, .slice (some ⟨w10.heap.size, 0, none⟩) 1 1]).run Try.prog (w10.alloc (.cells y.cells.toArray 42)) = .ok v12 w12) ∧
      (∀ ty, (Builtin.append_ #[35, 35] ty #[v12, .slice (if c = a then A else A.map (·.add (a * 4))) (M.length - a) (c - a)]).run Try.prog w12 = .ok v13 w13) ∧
      OwnE w13 w.heap.size v13 (M.take a ++ y :: M.drop a) ∧ Below w.heap.size w w10 ∧ Below w.heap.size w w13 := by
  obtain ⟨ti, hti, hts, htz, htb⟩ := infoE
  have b9 : Below w.heap.size w (w.alloc (.cells #[] 42)) := (Below.refl _ _).alloc (Nat.le_refl _) _
  have own0 : (w.alloc (.cells #[] 42)).ownsRow w.heap.size 42 4 (.slice (some ⟨w.heap.size, 0, none⟩) 0 0) 0 [] := ⟨rfl, .inr ⟨w.heap.size, 0, #[], rfl, Nat.le_refl _, heap_alloc_new w _, Nat.le_refl _, Nat.zero_le _, rfl, rfl⟩⟩
  have r1 := (hr.take a ha).below b9
  rw [flat_take M a ha] at r1
  obtain ⟨v10, w10, run10, own10, gr10, _⟩ := run_appN (P := Try.prog) (w.alloc (.cells #[] 42)) w.heap.size 35 35 42 ti (ent ⟨#[]⟩ 0 false ⟨#[]⟩) 4 48 Try.underlying35 hti htz hts htb rfl (by omega) own0 (c := c) r1 (flat_one _) (by unfold maxLen; omega) (by omega) b9.size
  rw [Nat.zero_add, List.nil_append] at own10
  have b10 : Below w.heap.size w w10 := b9.trans (grown_below gr10 b9.size (fun k hk => (own0.lt k hk).1))
  have b11 : Below w.heap.size w (w10.alloc (.cells y.cells.toArray 42)) := b10.alloc b10.size _
  have own11 : (w10.alloc (.cells y.cells.toArray 42)).ownsRow w.heap.size 42 4 v10 a (flat (M.take a)) := ownN_keep own10 (fun k hk => ((Below.refl w10.heap.size w10).alloc (Nat.le_refl _) _).block k (own10.lt k hk).2)
  have r2 := RdN.new w10 4 1 y.cells 42 (0, 0) (by rw [En.cells_len])
  obtain ⟨v12, w12, run12, own12, gr12, _⟩ := run_appN (P := Try.prog) (w10.alloc (.cells y.cells.toArray 42)) w.heap.size 35 35 42 ti (ent ⟨#[]⟩ 0 false ⟨#[]⟩) 4 48 Try.underlying35 hti htz hts htb rfl (by omega) own11 (c := 1) r2 y.one (by unfold maxLen; omega) (by omega) b11.size
  have b12 : Below w.heap.size w w12 := b11.trans (grown_below gr12 b11.size (fun k hk => (own11.lt k hk).1))
  have r3 := (hr.drop a c ha hc).below b12
  rw [flat_drop M a ha] at r3
  obtain ⟨v13, w13, run13, own13, gr13, _⟩ := run_appN (P := Try.prog) w12 w.heap.size 35 35 42 ti (ent ⟨#[]⟩ 0 false ⟨#[]⟩) 4 48 Try.underlying35 hti htz hts htb rfl (by omega) own12 (c := c - a) r3 (flat_one _) (by unfold maxLen; omega) (by omega) b12.size
  have b13 : Below w.heap.size w w13 := b12.trans (grown_below gr13 b12.size (fun k hk => (own12.lt k hk).1))
  refine ⟨v10, w10, v12, w12, v13, w13, fun _ => run10, fun u e => ?_, fun _ => run12, fun _ => run13, ?_, b10, b13⟩
  · have := run_buildSlice_rows (P := Try.prog) w10 35 42 ti (ent ⟨#[]⟩ 0 false ⟨#[]⟩) 4 Try.underlying35 hti htz hts (by omega) 1 [y.cells] rfl (by omega) (by simp [En.cells_len]) (by omega) #[(0, u)] (by rw [e]; rfl)
    simpa using this
  · unfold OwnE
    rw [flat_append, flat_cons]
    rw [List.append_assoc] at own13
    have e : (M.take a ++ y :: M.drop a).length = a + 1 + (M.length - a) := by simp; omega
    rw [e]
    exact own13

structure AddS (w : World) (B p q i : Nat) (va : Value) (M : List En) (vi : Value) : Prop where
  few : Few M i
  ta : Tb w B p q va M
  row : OwnE w B vi M
  ai : Aprt (ft p q va) vi.ownBlock.toList
theorem AddS.below {w w' : World} {B p q i : Nat} {va vi : Value} {M : List En} (h : AddS w B p q i va M vi) (hb : Below w.heap.size w w') : AddS w' B p q i va M vi :=
  ⟨h.few, h.ta.below hb, ownN_keep h.row (fun k hk => hb.block k (h.row.lt k hk).2), h.ai⟩
theorem AddS.no {w w' : World} {B p q i : Nat} {va va' vi : Value} {M : List En} {y : En} (h : AddS w B p q i va M vi) (hr : addR M y ≠ 0) (T : Tb w' B p q va' (addL M y)) (t : Tch w w' (ft p q va)) (o : va'.ownBlock = va.ownBlock ∨ ∀ k, va'.ownBlock = some k → w.heap.size ≤ k) : AddS w' B p q (i + 1) va' M vi := by
  have hf := h.few.add y
  rw [addL_no M y hr] at T hf
  exact ⟨hf, T, own_tch h.row t h.ai.symm, h.ai.step (row_lt h.row) (ft_step o)⟩
theorem AddS.put {w w' w'' : World} {B p q i : Nat} {va va' vi v13 : Value} {M : List En} {y : En} (h : AddS w B p q i va M vi) (hr : addR M y = 0) (T : Tb w' B p q va' (addL M y)) (hB : B ≤ w'.heap.size) (hO : OwnE w'' w'.heap.size v13 (M.take (pos cmpE M y) ++ y :: M.drop (pos cmpE M y))) (hb : Below w'.heap.size w' w'') : AddS w'' B p q (i + 1) va' (ins cmpE M y) v13 := by
  have hf := h.few.add y
  rw [(addL_ok M y hr).1] at T hf
  exact ⟨hf, T.below hb, ownN_base hO hB, fun k hk hk' => by have h1 := T.ft_lt k hk; have h2 := (hO.lt k (by simpa using hk')).1; omega⟩
theorem pos_self {M : List En} (hs : Srt cmpE M) {j : Nat} {y : En} (hj : M[j]? = some y) : pos cmpE M y = j := by
  obtain ⟨hl, rfl⟩ := List.getElem?_eq_some_iff.1 hj
  refine pos_eq cmpE M _ j (by omega) (fun m z hm hz => ?_) (fun z hz h => ?_)
  · obtain ⟨hml, rfl⟩ := List.getElem?_eq_some_iff.1 hz
    exact List.pairwise_iff_getElem.1 hs m j hml hl hm
  · rw [hj] at hz
    injection hz with e
    rw [← e, ordE.refl] at h
    omega
end Go.Proofs.Ytgdkcnpgnmmliab
