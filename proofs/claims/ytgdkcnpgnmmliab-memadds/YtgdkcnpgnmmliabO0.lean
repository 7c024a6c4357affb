/- Entries held against each other; two tables side by side. -/
import Derived.Test.YtgdkcnpgnmmliabF1
import Derived.Laws.StructEq
namespace Go.Proofs.Ytgdkcnpgnmmliab
set_option linter.unusedSimpArgs false
set_option linter.unusedVariables false
open Go.RowKit

theorem stE : Try.prog.underlying 42 = some (.struct (Try.prog.fieldsOf 42)) := by kernel_rfl
theorem spE : Try.prog.stoodInHeld 42 = false := by kernel_rfl
theorem guE : Try.prog.eqGuardType Try.prog.depth 42 = false := by kernel_rfl
def eqE (x y : En) : Bool := (x.k.toList == y.k.toList) && (x.S == y.S) && (x.d == y.d) && (x.v.toList == y.v.toList)
theorem eqE_iff (x y : En) : eqE x y = true ↔ x = y := by
  unfold eqE
  simp only [Bool.and_eq_true, beq_iff_eq]
  constructor
  · rintro ⟨⟨⟨h1, h2⟩, h3⟩, h4⟩
    cases x; cases y
    simp only at h1 h2 h3 h4
    rw [toList_inj h1, h2, h3, toList_inj h4]
  · rintro rfl
    exact ⟨⟨⟨rfl, rfl⟩, rfl⟩, rfl⟩
theorem equalInE (d : Nat) (x y : En) (w : World) : (Op.equalIn (d + 2) 42 x.val y.val).run Try.prog w = .ok (eqE x y) w := by
  have u9 := Try.underlying9
  have u40 := Try.underlying40
  have u4 := Try.underlying4
  rw [run_equalIn_agg w (d + 1) 42 _ _ stE spE]
  simp only [Program.fieldsOf, Try.underlying42]
  unfold eqE
  go_simp
  by_cases h1 : x.k.toList = y.k.toList <;> by_cases h2 : x.S = y.S <;> by_cases h3 : x.d = y.d <;> by_cases h4 : x.v.toList = y.v.toList <;> simp [h1, h2, h3, h4]
theorem eqlE (x y : En) (w : World) : (binOp .eql 42 x.val y.val).run Try.prog w = .ok (.bool (eqE x y)) w := by
  have h : (Op.equalIn 10000 42 x.val y.val).run Try.prog w = .ok (eqE x y) w := equalInE 9998 x y w
  rw [run_eql_struct, h]; rfl
theorem neqE (x y : En) (w : World) : (binOp .neq 42 x.val y.val).run Try.prog w = .ok (.bool (!eqE x y)) w := by
  have h : (Op.equalIn 10000 42 x.val y.val).run Try.prog w = .ok (eqE x y) w := equalInE 9998 x y w
  rw [run_neq_struct, h]; rfl
theorem neqE_same (x : En) (w : World) : (binOp .neq 42 x.val x.val).run Try.prog w = .ok (.bool false) w := by rw [neqE, (eqE_iff x x).2 rfl]; rfl

/-- A table's feet. -/
def ft (gt gs : Nat) (v : Value) : List Nat := gt :: gs :: v.ownBlock.toList
def Aprt (F G : List Nat) : Prop := ∀ k ∈ F, k ∉ G
theorem Aprt.symm {F G : List Nat} (h : Aprt F G) : Aprt G F := fun k hk hk' => h k hk' hk
theorem Aprt.step {F F' G : List Nat} {n : Nat} (h : Aprt F G) (hG : ∀ k ∈ G, k < n) (hF : ∀ k ∈ F', k ∈ F ∨ n ≤ k) : Aprt F' G := fun k hk hk' => by
  rcases hF k hk with h1 | h1
  · exact h k h1 hk'
  · have := hG k hk'; omega
theorem ft_step {gt gs n : Nat} {v v' : Value} (h : v'.ownBlock = v.ownBlock ∨ ∀ k, v'.ownBlock = some k → n ≤ k) : ∀ k ∈ ft gt gs v', k ∈ ft gt gs v ∨ n ≤ k := by
  intro k hk
  unfold ft at *
  simp only [List.mem_cons, Option.mem_toList] at *
  rcases hk with hk | hk | hk
  · exact .inl (.inl hk)
  · exact .inl (.inr (.inl hk))
  · rcases h with h | h
    · exact .inl (.inr (.inr (by rw [← h]; exact hk)))
    · exact .inr (h k hk)
theorem Tb.ft_lt {w : World} {base gt gs : Nat} {v : Value} {L : List En} (h : Tb w base gt gs v L) : ∀ k ∈ ft gt gs v, k < w.heap.size := by
  intro k hk
  unfold ft at hk
  simp only [List.mem_cons, Option.mem_toList] at hk
  rcases hk with rfl | rfl | hk
  · exact h.box.lt
  · exact h.sd.box.lt
  · exact (h.sd.own.lt k hk).2
theorem Tb.ft_ge {w : World} {base gt gs : Nat} {v : Value} {L : List En} (h : Tb w base gt gs v L) : ∀ k ∈ ft gt gs v, base ≤ k := by
  intro k hk
  unfold ft at hk
  simp only [List.mem_cons, Option.mem_toList] at hk
  rcases hk with rfl | rfl | hk
  · exact h.lo
  · exact h.sd.lo
  · exact (h.sd.own.lt k hk).1
/-- What turns only F leaves alone what is apart from it. -/
theorem Tb.tch {w w' : World} {base gt gs : Nat} {v : Value} {L : List En} {F : List Nat} (h : Tb w base gt gs v L) (t : Tch w w' F) (ha : Aprt (ft gt gs v) F) : Tb w' base gt gs v L :=
  h.keep fun k hk => t.block k (h.ft_lt k hk) (ha k hk)
theorem own_tch {w w' : World} {base : Nat} {v : Value} {L : List En} {F : List Nat} (h : OwnE w base v L) (t : Tch w w' F) (ha : Aprt v.ownBlock.toList F) : OwnE w' base v L :=
  ownN_keep h fun k hk => t.block k (h.lt k hk).2 (ha k (by simp [hk]))

/-- No two of one place. -/
def Dist (L : List En) : Prop := L.Pairwise fun a b => cmpE a b ≠ 0
theorem Dist.of_perm {M I : List En} (h : Srt cmpE M) (p : M.Perm I) : Dist I := by
  refine (p.pairwise_iff (fun {a b} hab e => hab (ordE.zero _ _ e))).1 (h.imp fun hab => by omega)
theorem szE_perm {M I : List En} (p : M.Perm I) : szE M = szE I := (p.map _).sum_nat
theorem szE_drop (I : List En) (r : Nat) : szE (I.drop r) ≤ szE I := by
  have : szE I = szE (I.take r) + szE (I.drop r) := by
    unfold szE
    rw [← List.sum_append_nat, ← List.map_append, List.take_append_drop]
  omega
/-- Each of them can be put beside those behind it. -/
theorem add_back {I N : List En} {r : Nat} {y : En} (hd : Dist I) (hp : N.Perm (I.drop (r + 1))) (hs : Srt cmpE N) (hy : I[r]? = some y) (hc : chkE y = 0) : addR N y = 0 ∧ addL N y = ins cmpE N y ∧ (ins cmpE N y).Perm (I.drop r) := by
  obtain ⟨hr, rfl⟩ := List.getElem?_eq_some_iff.1 hy
  have hdr : I.drop r = I[r] :: I.drop (r + 1) := List.drop_eq_getElem_cons hr
  have hh : hit cmpE N I[r] = false := by
    cases hb : hit cmpE N I[r] with
    | false => rfl
    | true =>
      obtain ⟨z, hz, h0⟩ := (hs.hit_mem ordE I[r]).1 hb
      have hz' := hp.subset hz
      have hd2 : Dist (I.drop r) := hd.sublist (List.drop_sublist _ _)
      rw [hdr] at hd2
      exact absurd (ordE.zero _ _ h0) ((List.pairwise_cons.1 hd2).1 z hz')
  have h0 : addR N I[r] = 0 := by unfold addR; rw [if_pos hc, hh]; rfl
  exact ⟨h0, by unfold addL; rw [if_pos h0], by rw [hdr]; exact (ins_perm N I[r]).trans (hp.cons _)⟩
end Go.Proofs.Ytgdkcnpgnmmliab
