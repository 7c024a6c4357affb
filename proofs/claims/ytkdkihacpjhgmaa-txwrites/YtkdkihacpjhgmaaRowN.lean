/- Slices whose elements are of s cells: read ('RdN'), of the call's own (the library's ownsRow), laid on, built by the text. -/
import Derived.Test.YtkdkihacpjhgmaaArr
namespace Go.Proofs.Ytkdkihacpjhgmaa
set_option linter.unusedSimpArgs false
set_option linter.unusedVariables false
open Go.RowKit

/-- The slice '.slice A n _' of elements of s cells reads as the cells xs, and lies below block B. -/
structure RdN (w : World) (B s : Nat) (A : Option Addr) (n : Nat) (xs : List Value) : Prop where
  len : xs.length = n * s
  at_ : 0 < n → ∃ g off, A = some ⟨g, off, none⟩ ∧ g < B ∧ ∀ j u, xs[j]? = some u → w.cell? ⟨g, off + j, none⟩ = some u
section
variable {w w' : World} {B B' s n : Nat} {A : Option Addr} {xs : List Value}
theorem RdN.nil (w : World) (B s : Nat) (A : Option Addr) : RdN w B s A 0 [] := ⟨by simp, fun h => absurd h (by omega)⟩
theorem RdN.below (h : RdN w B s A n xs) (hb : Below B w w') : RdN w' B s A n xs :=
  ⟨h.len, fun h0 => by
    obtain ⟨g, off, e, hg, hc⟩ := h.at_ h0
    exact ⟨g, off, e, hg, fun j u hu => (hb.cell (p := ⟨g, off + j, none⟩) hg).trans (hc j u hu)⟩⟩
theorem RdN.up (h : RdN w B s A n xs) (hB : B ≤ B') : RdN w B' s A n xs :=
  ⟨h.len, fun h0 => by
    obtain ⟨g, off, e, hg, hc⟩ := h.at_ h0
    exact ⟨g, off, e, by omega, hc⟩⟩
theorem RdN.drewN (h : RdN w B s A n xs) (k : Nat) : RdN (w.drewN k) B s A n xs := ⟨h.len, h.at_⟩
theorem RdN.drew (h : RdN w B s A n xs) : RdN w.drew B s A n xs := ⟨h.len, h.at_⟩
/-- Element i, as a range of cells. -/
theorem RdN.elem (h : RdN w B s A n xs) (i : Nat) (hi : i < n) : ∃ g off, A = some ⟨g, off, none⟩ ∧ g < B ∧ w.rangeAt g (off + i * s) ((xs.drop (i * s)).take s) := by
  obtain ⟨g, off, e, hg, hc⟩ := h.at_ (by omega)
  refine ⟨g, off, e, hg, fun j u hu => ?_⟩
  rw [List.getElem?_take] at hu
  split at hu
  · rw [List.getElem?_drop] at hu
    rw [Nat.add_assoc]
    exact hc _ u hu
  · cases hu
theorem RdN.drop (h : RdN w B s A n xs) (k c : Nat) (hk : k ≤ n) (hc : n ≤ c) : RdN w B s (if c = k then A else A.map (·.add (k * s))) (n - k) (xs.drop (k * s)) := by
  refine ⟨by rw [List.length_drop, h.len, Nat.sub_mul], fun hp => ?_⟩
  obtain ⟨g, off, e, hB, hcell⟩ := h.at_ (by omega)
  rw [if_neg (by omega)]
  refine ⟨g, off + k * s, by rw [e]; simp [Addr.add_lit], hB, fun j u hu => ?_⟩
  rw [List.getElem?_drop] at hu
  have := hcell _ u hu
  rwa [← Nat.add_assoc] at this
theorem RdN.take (h : RdN w B s A n xs) (k : Nat) (hk : k ≤ n) : RdN w B s A k (xs.take (k * s)) := by
  have hle : k * s ≤ n * s := Nat.mul_le_mul_right _ hk
  refine ⟨by rw [List.length_take, h.len]; omega, fun hp => ?_⟩
  obtain ⟨g, off, e, hB, hcell⟩ := h.at_ (by omega)
  refine ⟨g, off, e, hB, fun j u hu => ?_⟩
  rw [List.getElem?_take] at hu
  split at hu
  · exact hcell j u hu
  · cases hu
end
theorem RdN.new (w : World) (s n : Nat) (C : List Value) (e : TypeId) (fr : Nat × Nat) (h : C.length = n * s) : RdN (w.alloc (.cells C.toArray e fr)) (w.heap.size + 1) s (some ⟨w.heap.size, 0, none⟩) n C :=
  ⟨h, fun _ => ⟨_, 0, rfl, by omega, fun j u hu => by rw [Nat.zero_add, World.cell?_alloc_mark]; simpa using hu⟩⟩
theorem own_rdN {w : World} {base s : Nat} {e : TypeId} {v : Value} {n : Nat} {xs : List Value} (h : w.ownsRow base e s v n xs) : ∃ A c, v = .slice A n c ∧ n ≤ c ∧ c ≤ maxLen ∧ RdN w w.heap.size s A n xs := by
  have hlt := h.lt
  rcases h.2 with ⟨rfl, rfl⟩ | ⟨g, cap, cur, rfl, hb, hg, hnc, hcm, hcs, ht⟩
  · have hx : xs = [] := List.eq_nil_of_length_eq_zero (by have := h.1; simpa using this)
    subst hx
    exact ⟨none, 0, rfl, Nat.le_refl _, Nat.zero_le _, RdN.nil _ _ _ _⟩
  · refine ⟨_, cap, rfl, hnc, hcm, ⟨h.1, fun _ => ⟨g, 0, rfl, (hlt g rfl).2, fun j u hu => ?_⟩⟩⟩
    have := h.cells (g := g) rfl j u hu
    rwa [Addr.add_lit] at this
theorem ownN_keep {w w' : World} {base s : Nat} {e : TypeId} {v : Value} {n : Nat} {xs : List Value} (h : w.ownsRow base e s v n xs) (hk : ∀ k, v.ownBlock = some k → w'.heap[k]? = w.heap[k]?) : w'.ownsRow base e s v n xs := by
  refine ⟨h.1, h.2.imp id ?_⟩
  rintro ⟨g, cap, cur, rfl, hb, hg, r⟩
  exact ⟨g, cap, cur, rfl, hb, (hk g rfl).trans hg, r⟩
theorem ownN_below {w w' : World} {base s B : Nat} {e : TypeId} {v : Value} {n : Nat} {xs : List Value} (h : w.ownsRow base e s v n xs) (hb : Below B w w') (hlt : ∀ k, v.ownBlock = some k → k < B) : w'.ownsRow base e s v n xs :=
  ownN_keep h fun k hk => hb.block k (hlt k hk)
theorem ownN_base {w : World} {base base' s : Nat} {e : TypeId} {v : Value} {n : Nat} {xs : List Value} (h : w.ownsRow base e s v n xs) (hb : base' ≤ base) : w.ownsRow base' e s v n xs := by
  refine ⟨h.1, h.2.imp id ?_⟩
  rintro ⟨g, cap, cur, rfl, hg0, r⟩
  exact ⟨g, cap, cur, rfl, by omega, r⟩

section
variable {P : Program} (w : World)
/-- append of some elements behind a row of the call's own. -/
theorem run_appN (base : Nat) (t ty e : TypeId) (i : TypeInfo) (z : Value) (s bytes : Nat) (ht : P.underlying t = some (.slice e)) (hi : P.info? e = some i) (hz : i.zero = some z) (hsize : i.size = s) (hby : i.bytes = bytes) (hzs : z.cells.size = s) (hs0 : 0 < s)
    {v : Value} {n : Nat} {xs : List Value} (hown : w.ownsRow base e s v n xs) {B : Nat} {A : Option Addr} {m c : Nat} {ns : List Value} (hr : RdN w B s A m ns) (h1 : ∀ u ∈ ns, u.oneCell' = true)
    (h63 : n + m ≤ maxLen) (hbytes : (n + m) * bytes ≤ 140737488355328) (hbase : base ≤ w.heap.size) :
    ∃ v' w', (Builtin.append_ #[t, t] ty #[v, .slice A m c]).run P w = .ok v' w' ∧ w'.ownsRow base e s v' (n + m) (xs ++ ns) ∧ w.grownBy w' v.ownBlock ∧ (v'.ownBlock = v.ownBlock ∨ ∀ k, v'.ownBlock = some k → w.heap.size ≤ k) := by
  rcases Nat.eq_zero_or_pos m with h0 | h0
  · subst h0
    have hns : ns = [] := List.eq_nil_of_length_eq_zero (by have := hr.len; simpa using this)
    subst hns
    refine ⟨v, w, ?_, by simpa using hown, ⟨rfl, rfl, rfl, Nat.le_refl _, fun _ _ _ => rfl⟩, .inl rfl⟩
    rcases hown.2 with ⟨rfl, rfl⟩ | ⟨g, cap, cur, rfl, _, _, hnc, _⟩
    · cases A <;> simp [Builtin.append_, run_underlying ht, sizeOf, typeInfo, hi, Builtin.lenOf, Builtin.firstCells, loadCells, loadCellsFrom]
    · cases A <;> simp [Builtin.append_, run_underlying ht, sizeOf, typeInfo, hi, Builtin.lenOf, Builtin.firstCells, hnc, storeCells, loadCells, loadCellsFrom]
  · obtain ⟨g, off, rfl, _, hc⟩ := hr.at_ h0
    obtain ⟨v', w', hrun, ho, hg, _, hloc⟩ := run_append_own_at (P := P) w base t ty e i z s bytes ht hi hz hsize hby hzs hs0 v n xs hown ⟨g, off, none⟩ m c ns hr.len (fun j u hu => by rw [Addr.add_lit]; exact hc j u hu) h1 h63 hbytes hbase
    exact ⟨v', w', hrun, ho, hg, hloc.imp id (fun e k hk => by rw [e] at hk; injection hk with hk; omega)⟩
theorem foldl_set (vs : List Value) : ∀ (off k : Nat) (pre mid post : List Value), pre.length = off + k → mid.length = vs.length →
    (vs.zipIdx k).foldl (fun cs (x : Value × Nat) => cs.setIfInBounds (off + x.2) x.1) (pre ++ mid ++ post).toArray = (pre ++ vs ++ post).toArray := by
  induction vs with
  | nil => intro off k pre mid post _ hm; have : mid = [] := List.eq_nil_of_length_eq_zero hm; subst this; simp
  | cons v r ih =>
    intro off k pre mid post hp hm
    cases mid with
    | nil => simp at hm
    | cons m mid =>
      simp only [List.zipIdx_cons, List.foldl_cons]
      have e : (pre ++ m :: mid ++ post).toArray.setIfInBounds (off + k) v = ((pre ++ [v]) ++ mid ++ post).toArray := by
        rw [List.setIfInBounds_toArray, ← hp, List.append_assoc, List.set_append_right _ _ (Nat.le_refl _), Nat.sub_self]
        simp
      rw [e, ih off (k + 1) (pre ++ [v]) mid post (by simp; omega) (by simpa using hm)]
      simp
theorem fill_rows (s : Nat) : ∀ (cs : List (List Value)) (k : Nat) (pre post : List Value), (∀ c ∈ cs, c.length = s) → pre.length = k * s → post.length = cs.length * s →
    Instr.fill (fun i => some (i * s, s)) (pre ++ post).toArray ((cs.zipIdx k).map fun (x : List Value × Nat) => (x.2, Value.agg x.1.toArray)) = some (pre ++ cs.flatten).toArray := by
  intro cs
  induction cs with
  | nil => intro k pre post _ _ hp; have : post = [] := List.eq_nil_of_length_eq_zero (by simpa using hp); subst this; simp [Instr.fill]
  | cons c r ih =>
    intro k pre post hs hk hp
    have hc : c.length = s := hs c (by simp)
    have hp' : post.length = s + r.length * s := by rw [hp, List.length_cons, Nat.succ_mul]; omega
    have step : ∀ R, Instr.fill (fun i => some (i * s, s)) (pre ++ post).toArray ((k, Value.agg c.toArray) :: R) = Instr.fill (fun i => some (i * s, s)) (c.toArray.zipIdx.foldl (fun cs (x : Value × Nat) => cs.setIfInBounds (k * s + x.2) x.1) (pre ++ post).toArray) R := by
      intro R
      show (if ((Value.agg c.toArray).cells.size ≠ s || k * s + (Value.agg c.toArray).cells.size > (pre ++ post).toArray.size) = true then none else _) = _
      refine (if_neg ?_).trans rfl
      simp [Value.cells, hc, hk, hp']
    simp only [List.zipIdx_cons, List.map_cons]
    rw [step]
    have hsplit : post = post.take s ++ post.drop s := (List.take_append_drop s post).symm
    have e := foldl_set c (k * s) 0 pre (post.take s) (post.drop s) (by omega) (by rw [List.length_take, hc, hp']; omega)
    rw [List.append_assoc, List.take_append_drop] at e
    have e2 : (c.toArray.zipIdx.foldl (fun cs (x : Value × Nat) => cs.setIfInBounds (k * s + x.2) x.1) (pre ++ post).toArray) = (pre ++ c ++ post.drop s).toArray := by
      rw [← e, ← Array.foldl_toList, Array.toList_zipIdx]
    rw [e2, ih (k + 1) (pre ++ c) (post.drop s) (fun d hd => hs d (by simp [hd])) (by rw [List.length_append, hk, hc, Nat.succ_mul]) (by rw [List.length_drop, hp']; omega)]
    simp
/-- A literal of elements that are written out whole. -/
theorem run_buildSlice_rows (t e : TypeId) (i : TypeInfo) (z : Value) (s : Nat) (ht : P.underlying t = some (.slice e)) (hi : P.info? e = some i) (hz : i.zero = some z) (hsize : i.size = s) (hs0 : 0 < s)
    (n : Nat) (cs : List (List Value)) (hn : cs.length = n) (hn0 : 0 < n) (hs : ∀ c ∈ cs, c.length = s) (hbig : n * s ≤ 16777216) (parts : Array (Nat × Value)) (hp : parts.toList = (cs.zipIdx 0).map fun (x : List Value × Nat) => (x.2, Value.agg x.1.toArray)) :
    (Instr.buildSlice t n parts).run P w = .ok (.slice (some ⟨w.heap.size, 0, none⟩) n n) (w.alloc (.cells cs.flatten.toArray e)) := by
  have hpos : n * s ≠ 0 := Nat.mul_ne_zero (by omega) (by omega)
  have hf := fill_rows s cs 0 [] ((List.range (n * s)).map (z.cells[· % z.cells.size]!)) hs (by simp) (by simp [hn])
  rw [List.nil_append, List.nil_append] at hf
  have e1 : (Array.range (n * s)).map (z.cells[· % z.cells.size]!) = ((List.range (n * s)).map (z.cells[· % z.cells.size]!)).toArray := by
    rw [← List.map_toArray, List.toArray_range]
  have hf2 : Instr.fill (fun i => some (i * s, s)) ((Array.range (n * s)).map (z.cells[· % z.cells.size]!)) parts.toList = some cs.flatten.toArray := by rw [e1, hp]; exact hf
  have hz' : ∀ w, (sizeOf e).run P w = .ok s w := fun w => by simp [sizeOf, typeInfo, hi, hsize]
  have hzv : ∀ w, (zeroValue e).run P w = .ok z w := fun w => by simp [zeroValue, typeInfo, hi, hz]
  have hlim : ¬ (n * s > 2 ^ 24) := by omega
  have hz0' : ¬ (n * s = 0) := hpos
  clear hf e1 hp
  unfold Instr.buildSlice
  simp only [Sem.run_bind, run_underlying ht, Result.andThen_ok, hz', Sem.run_pure]
  rw [if_neg hlim, if_neg hz0']
  simp [hzv, newRow]
  rw [hf2]
  simp
end
theorem operwp_append_run {P : Program} {w : World} {o : Oper} {a : Act} {Q : Exit → Act → World → Prop} {K : Act → World → Prop} {g : Bool} {E : Prop} (hgd : g = true) (s x : Operand) (t : TypeId)
    (ho : o.op = .call { callee := .builtin .append, args := #[s, x], argTypes := #[t, t] }) {v u v' : Value} {w' : World} (hs : a.eval s = v) (hx : a.eval x = u) (hrun : (Builtin.append_ #[t, t] o.type #[v, u]).run P w = .ok v' w')
    (hK : K (a.put o.dst v') w') : if g = true then Oper.wp P o a w K Q else E := by
  rw [if_pos hgd]
  unfold Oper.wp
  simp [execOp, ho, resolve, invoke, builtin, hs, hx, hrun, Result.andThen]
  exact hK
theorem wp_append_run {P : Program} {w : World} {o : Oper} {a : Act} {Q : Exit → Act → World → Prop} {K : Act → World → Prop} (s x : Operand) (t : TypeId)
    (ho : o.op = .call { callee := .builtin .append, args := #[s, x], argTypes := #[t, t] }) {v u v' : Value} {w' : World} (hs : a.eval s = v) (hx : a.eval x = u) (hrun : (Builtin.append_ #[t, t] o.type #[v, u]).run P w = .ok v' w')
    (hK : K (a.put o.dst v') w') : Oper.wp P o a w K Q := by
  unfold Oper.wp
  simp [execOp, ho, resolve, invoke, builtin, hs, hx, hrun, Result.andThen]
  exact hK
theorem wp_buildSlice_run {P : Program} {w : World} {o : Oper} {a : Act} {Q : Exit → Act → World → Prop} {K : Act → World → Prop} (t : TypeId) (n : Nat) (parts : Array (Nat × Operand)) (ho : o.op = .buildSlice t n parts) {v' : Value} {w' : World}
    (hrun : (Instr.buildSlice t n (parts.map fun (i, x) => (i, a.eval x))).run P w = .ok v' w') (hK : K (a.put o.dst v') w') : Oper.wp P o a w K Q := by
  unfold Oper.wp
  simp [execOp, ho, hrun, Result.andThen]
  exact hK
theorem wp_buildSlice_1 {P : Program} {w : World} {o : Oper} {a : Act} {Q : Exit → Act → World → Prop} {K : Act → World → Prop} (t : TypeId) (x : Operand) (ho : o.op = .buildSlice t 1 #[(0, x)]) {v v' : Value} {w' : World}
    (hx : a.eval x = v) (hrun : (Instr.buildSlice t 1 #[(0, v)]).run P w = .ok v' w') (hK : K (a.put o.dst v') w') : Oper.wp P o a w K Q := by
  subst hx
  exact wp_buildSlice_run t 1 #[(0, x)] ho (by simpa using hrun) hK
end Go.Proofs.Ytkdkihacpjhgmaa
