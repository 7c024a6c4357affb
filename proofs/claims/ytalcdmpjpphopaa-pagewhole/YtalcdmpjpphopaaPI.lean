/- PageWhole's lists: what is made of them (pure). -/
import Derived.Test.YtalcdmpjpphopaaPG
namespace Go.Proofs.Ytalcdmpjpphopaa
set_option linter.unusedSimpArgs false
set_option linter.unusedVariables false
open Go.RowKit

def hdW (i : Nat) : List Nat := [107, 101, 121, 97 + i / 26, 97 + i % 26]
def nmW (l i : Nat) : List Nat := hdW i ++ List.replicate l 120
def prW (l i : Nat) : Pr := (nmW l i, [118])
def lstW (l n : Nat) : List Pr := (List.range n).map (prW l)
theorem nmW_len (l i : Nat) : (nmW l i).length = 5 + l := by simp [nmW, hdW]; omega
theorem lstW_len (l n : Nat) : (lstW l n).length = n := by simp [lstW]
theorem lstW_succ (l n : Nat) : lstW l (n + 1) = lstW l n ++ [prW l n] := by simp [lstW, List.range_succ]
theorem lstW_at (l n i : Nat) (h : i < n) : (lstW l n)[i]? = some (prW l i) := by simp [lstW, h]

theorem less_app : ∀ (a b t u : List UInt8), a.length = b.length → a ≠ b → Op.bytesLess (a ++ t) (b ++ u) = Op.bytesLess a b
  | [], [], _, _, _, h => absurd rfl h
  | [], _ :: _, _, _, h, _ => by simp at h
  | _ :: _, [], _, _, h, _ => by simp at h
  | x :: a, y :: b, t, u, h, hn => by
    simp only [List.cons_append, Op.bytesLess]
    by_cases hxy : x = y
    · subst hxy
      rw [less_app a b t u (by simpa using h) (fun e => hn (by rw [e]))]
    · have e : (x == y) = false := by simpa using hxy
      rw [e]; simp
theorem hd_less : ∀ i, i < 64 → Op.bytesLess ((hdW (i + 1)).map UInt8.ofNat) ((hdW i).map UInt8.ofNat) = false ∧ (hdW (i + 1)).map UInt8.ofNat ≠ (hdW i).map UInt8.ofNat := by decide +kernel
theorem leW (l i : Nat) (h : i < 64) : leL (nmW l (i + 1)) (nmW l i) = false := by
  obtain ⟨h1, h2⟩ := hd_less i h
  unfold leL nmW
  rw [strB_list, strB_list, List.map_append, List.map_append, less_app _ _ _ _ (by simp [hdW]) h2, h1, Bool.false_or]
  rw [beq_eq_false_iff_ne]
  intro e
  exact h2 (List.append_inj_left e (by simp [hdW]))

theorem bodyB_grow : ∀ (L : List Pr) (i : Nat) (prev : List Nat) (p : Pr), p.2 ≠ [] → (bodyB i prev L).length < (bodyB i prev (L ++ [p])).length
  | [], i, prev, p, h => by
    have := List.length_pos_iff.2 h
    simp only [List.nil_append, bodyB, List.append_nil, List.length_nil, pairB_len]
    omega
  | q :: r, i, prev, p, h => by
    have := bodyB_grow r (i + 1) q.1 p h
    simp only [List.cons_append, bodyB, List.length_append]
    omega
theorem stsB_count : ∀ (L : List Pr) (i n : Nat) (prev : List Nat), (stsB i n prev L).length + (i + 7) / 8 = (i + L.length + 7) / 8
  | [], i, n, prev => by simp [stsB]
  | p :: r, i, n, prev => by
    have := stsB_count r (i + 1) (n + (pairB (ahd i prev) p).length) p.1
    rw [stsB, List.length_append, List.length_cons]
    split <;> simp <;> omega
theorem stsB_at : ∀ (L : List Pr) (i n : Nat) (prev pre : List Nat), pre.length = n → ∀ m a, (stsB i n prev L)[m]? = some a → ∃ j p rest, L[j]? = some p ∧ i + j = 8 * ((i + 7) / 8 + m) ∧ (pre ++ bodyB i prev L).drop a = pairB [] p ++ rest
  | [], i, n, prev, pre, hn, m, a, h => by simp [stsB] at h
  | p :: r, i, n, prev, pre, hn, m, a, h => by
    have IH := stsB_at r (i + 1) (n + (pairB (ahd i prev) p).length) p.1 (pre ++ pairB (ahd i prev) p) (by simp [hn])
    rw [stsB] at h
    by_cases h8 : i % 8 = 0
    · rw [if_pos h8] at h
      cases m with
      | zero =>
        simp at h
        subst h
        refine ⟨0, p, bodyB (i + 1) p.1 r, rfl, by omega, ?_⟩
        rw [← hn, List.drop_left, bodyB, show ahd i prev = [] from if_pos h8]
      | succ m =>
        obtain ⟨j, q, rest, k1, k2, k3⟩ := IH m a (by simpa using h)
        refine ⟨j + 1, q, rest, by simpa using k1, by omega, ?_⟩
        rw [bodyB, ← List.append_assoc]; exact k3
    · rw [if_neg h8, List.nil_append] at h
      obtain ⟨j, q, rest, k1, k2, k3⟩ := IH m a h
      refine ⟨j + 1, q, rest, by simpa using k1, by omega, ?_⟩
      rw [bodyB, ← List.append_assoc]; exact k3
theorem okW (l i : Nat) (hl : l ≤ 16) (hi : i < 64) : okP (prW l i) := by
  refine ⟨fun x hx => ?_, fun x hx => ?_, by show (nmW l i).length ≤ _; rw [nmW_len]; omega, by simp [prW]⟩
  · simp only [prW, nmW, hdW, List.mem_append, List.mem_cons, List.mem_replicate, List.not_mem_nil, or_false] at hx
    omega
  · simp [prW] at hx; omega
theorem pairW_len (a : List Nat) (l i : Nat) (hl : l ≤ 16) : (pairB a (prW l i)).length ≤ 60 := by
  have h1 := M.sz_le (alk a (prW l i).1) (by have := (alk_le a (prW l i).1).2; have e : (prW l i).1.length = 5 + l := nmW_len l i; omega)
  have h2 := M.sz_le ((prW l i).1.length - alk a (prW l i).1) (by have e : (prW l i).1.length = 5 + l := nmW_len l i; omega)
  have h3 := M.sz_le (prW l i).2.length (by simp [prW])
  have e : (prW l i).1.length = 5 + l := nmW_len l i
  have e2 : (prW l i).2.length = 1 := rfl
  rw [pairB_len]
  omega
theorem mkW (l : Nat) (hl : l ≤ 16) : ∀ (k i : Nat) (prev b st : List Nat), i + k ≤ 64 → (0 < i → prev = nmW l (i - 1)) → b.length ≤ 60 * i → (mkGo i prev b st ((List.range' i k).map (prW l))).2 = 0
  | 0, i, prev, b, st, _, _, _ => by simp [mkGo]
  | k + 1, i, prev, b, st, h1, h2, h3 => by
    rw [List.range'_succ, List.map_cons, mkGo]
    have hle : (decide (0 < i) && leL (prW l i).1 prev) = false := by
      by_cases h0 : 0 < i
      · rw [h2 h0]
        have := leW l (i - 1) (by omega)
        rw [show i - 1 + 1 = i by omega] at this
        show (_ && leL (nmW l i) _) = false
        rw [this, Bool.and_false]
      · rw [decide_eq_false h0, Bool.false_and]
    have hp := pairW_len (ahd i prev) l i hl
    rw [hle, if_neg (by simp), if_neg (by rw [List.length_append]; omega)]
    exact mkW l hl k (i + 1) _ _ _ (by omega) (fun _ => rfl) (by rw [List.length_append]; omega)
theorem mkW_ok (l n : Nat) (hl : l ≤ 16) (hn : n ≤ 64) : (mk (lstW l n)).2 = 0 := by
  unfold mk lstW
  rw [List.range_eq_range']
  exact mkW l hl n 0 [] [] [] (by omega) (by omega) (by simp)
theorem mkW_grow (l n : Nat) (hl : l ≤ 16) (hn : n < 64) : (mk (lstW l n)).1.length < (mk (lstW l (n + 1))).1.length := by
  obtain ⟨a1, _⟩ := mkGo_ok (lstW l n) 0 [] [] [] (by simp) (mkW_ok l n hl (by omega))
  obtain ⟨b1, _⟩ := mkGo_ok (lstW l (n + 1)) 0 [] [] [] (by simp) (mkW_ok l (n + 1) hl (by omega))
  have c1 := stsB_count (lstW l n) 0 0 []
  have c2 := stsB_count (lstW l (n + 1)) 0 0 []
  have g := bodyB_grow (lstW l n) 0 [] (prW l n) (by simp [prW])
  rw [← lstW_succ] at g
  rw [lstW_len] at c1 c2
  unfold mk
  rw [a1, b1]
  simp only [List.nil_append, List.length_append, les_len, M.leB_len, List.length_nil]
  omega
/-- What is made of PageWhole's list: the pairs, the places of every eighth, their count. -/
theorem mkW_bytes (l n : Nat) (hl : l ≤ 16) (hn : n ≤ 64) : ∃ body sts : List Nat, (mk (lstW l n)).1 = body ++ les sts ++ M.leB sts.length 4 ∧ sts.length = (n + 7) / 8 ∧ body.length ≤ 262144 ∧
    ∀ m a, sts[m]? = some a → a + 1 < body.length ∧ body.getD a 0 = 0 ∧ body.getD (a + 1) 0 = 5 + l ∧ 8 * m < n := by
  obtain ⟨a1, a2⟩ := mkGo_ok (lstW l n) 0 [] [] [] (by simp) (mkW_ok l n hl hn)
  have c1 := stsB_count (lstW l n) 0 0 []
  rw [lstW_len] at c1
  refine ⟨bodyB 0 [] (lstW l n), stsB 0 0 [] (lstW l n), by unfold mk; rw [a1]; simp, by omega, by simpa using a2, fun m a h => ?_⟩
  obtain ⟨j, p, rest, k1, k2, k3⟩ := stsB_at (lstW l n) 0 0 [] [] rfl m a h
  have hj : j < n := by have := (List.getElem?_eq_some_iff.1 k1).1; rwa [lstW_len] at this
  rw [lstW_at l n j hj] at k1
  cases k1
  rw [List.nil_append] at k3
  have e1 : (prW l j).1.length = 5 + l := nmW_len l j
  have hp : pairB [] (prW l j) = [0, 5 + l] ++ (M.putB 1 ++ (prW l j).1 ++ [118]) := by
    unfold pairB
    rw [show alk [] (prW l j).1 = 0 by simp [alk], e1, Nat.sub_zero]
    have z1 : M.sz (5 + l) = 1 := M.sz_of _ 1 (by omega) (by omega) (Or.inl rfl)
    have z0 : M.putB 0 = [0] := by decide +kernel
    have z2 : M.putB (5 + l) = [5 + l] := by
      have hl1 := M.putB_len (5 + l)
      have hg := M.putB_get_last (5 + l)
      rw [z1] at hl1 hg
      match h : M.putB (5 + l) with
      | [x] => rw [h] at hg; simp at hg; rw [hg]
      | [] => rw [h] at hl1; simp at hl1
      | _ :: _ :: _ => rw [h] at hl1; simp at hl1
    rw [z0, z2]
    simp [prW]
  rw [hp] at k3
  have hlen := congrArg List.length k3
  simp only [List.length_drop, List.length_append, List.length_cons, List.length_nil] at hlen
  refine ⟨by omega, ?_, ?_, by omega⟩
  · have := congrArg (fun t => t.getD 0 0) k3
    simpa [List.getD_eq_getElem?_getD, List.getElem?_drop] using this
  · have := congrArg (fun t => t.getD 1 0) k3
    simpa [List.getD_eq_getElem?_getD, List.getElem?_drop] using this
end Go.Proofs.Ytalcdmpjpphopaa
