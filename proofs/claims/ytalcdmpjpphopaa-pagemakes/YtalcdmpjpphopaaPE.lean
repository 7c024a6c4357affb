/- What is read of what is made is what was made (pure). -/
import Derived.Test.YtalcdmpjpphopaaP9
namespace Go.Proofs.Ytalcdmpjpphopaa
set_option linter.unusedSimpArgs false
set_option linter.unusedVariables false

theorem alk_take : ∀ a b : List Nat, a.take (alk a b) = b.take (alk a b)
  | [], b => by cases b <;> simp [alk]
  | x :: a, [] => by simp [alk]
  | x :: a, y :: b => by
    rw [alk]
    split
    · next h => subst h; simp [alk_take a b]
    · simp
theorem rdN_put (n : Nat) (hn : n < 18446744073709551616) (more : List Nat) (br : Bool) : rdN (M.putB n ++ more, br) = (n, (more, br)) := by
  have hl : ld (M.putB n ++ more) 9 = M.sz n - 1 := (lead9 _).unique (M.lead_put n hn more)
  obtain ⟨h1, h2, h3⟩ := M.get_put n hn more
  have hp := M.sz_pos n
  unfold rdN
  simp only [hl]
  rw [if_pos h1, h3]
  have e : M.sz n - 1 + 1 = (M.putB n).length := by rw [M.putB_len]; omega
  rw [e, List.drop_left]
theorem rdT_app (s more : List Nat) (br : Bool) (n : Nat) (hn : n = s.length) : rdT (s ++ more, br) n = (s, (more, br)) := by
  subst hn
  unfold rdT
  rw [if_neg (by simp), List.take_left, List.drop_left]
theorem rdP_pair (a : List Nat) (p : Pr) (hp : okP p) (more : List Nat) (br : Bool) : rdP (pairB a p ++ more, br) a = (p, (more, br)) := by
  obtain ⟨h1, h2, h3, h4⟩ := hp
  have hal := alk_le a p.1
  have e1 : pairB a p ++ more = M.putB (alk a p.1) ++ (M.putB (p.1.length - alk a p.1) ++ (M.putB p.2.length ++ (p.1.drop (alk a p.1) ++ (p.2 ++ more)))) := by
    simp [pairB, List.append_assoc]
  have r1 : rdN (pairB a p ++ more, br) = (alk a p.1, (M.putB (p.1.length - alk a p.1) ++ (M.putB p.2.length ++ (p.1.drop (alk a p.1) ++ (p.2 ++ more))), br)) := by
    rw [e1]; exact rdN_put _ (by omega) _ _
  have r2 := rdN_put (p.1.length - alk a p.1) (by omega) (M.putB p.2.length ++ (p.1.drop (alk a p.1) ++ (p.2 ++ more))) br
  have r3 := rdN_put p.2.length (by omega) (p.1.drop (alk a p.1) ++ (p.2 ++ more)) br
  have r4 := rdT_app (p.1.drop (alk a p.1)) (p.2 ++ more) br (p.1.length - alk a p.1) (by simp)
  have r5 := rdT_app p.2 more br p.2.length rfl
  unfold rdP
  simp only [r1, r2, r3, r4, r5]
  rw [if_neg (by omega), alk_take, List.take_append_drop]

def bodyB (i : Nat) (prev : List Nat) : List Pr → List Nat
  | [] => []
  | p :: r => pairB (ahd i prev) p ++ bodyB (i + 1) p.1 r
def stsB (i n : Nat) (prev : List Nat) : List Pr → List Nat
  | [] => []
  | p :: r => (if i % 8 = 0 then [n] else []) ++ stsB (i + 1) (n + (pairB (ahd i prev) p).length) p.1 r
theorem mkGo_ok : ∀ (L : List Pr) (i : Nat) (prev b st : List Nat), b.length ≤ 262144 → (mkGo i prev b st L).2 = 0 →
    (mkGo i prev b st L).1 = b ++ bodyB i prev L ++ les (st ++ stsB i b.length prev L) ++ M.leB (st ++ stsB i b.length prev L).length 4 ∧ (b ++ bodyB i prev L).length ≤ 262144
  | [], i, prev, b, st, hb, _ => by
    rw [mkGo]
    simp [bodyB, stsB]
    exact hb
  | p :: r, i, prev, b, st, hb, h => by
    rw [mkGo] at h ⊢
    split at h
    · simp at h
    · next h1 =>
      rw [if_neg h1]
      split at h
      · simp at h
      · next h2 =>
        rw [if_neg h2]
        obtain ⟨k1, k2⟩ := mkGo_ok r (i + 1) p.1 (b ++ pairB (ahd i prev) p) (if i % 8 = 0 then st ++ [b.length] else st) (by omega) h
        rw [k1]
        have e : (if i % 8 = 0 then st ++ [b.length] else st) ++ stsB (i + 1) (b ++ pairB (ahd i prev) p).length p.1 r = st ++ stsB i b.length prev (p :: r) := by
          rw [stsB, List.length_append]
          split <;> simp
        rw [e]
        refine ⟨by rw [bodyB, List.append_assoc b], ?_⟩
        rw [bodyB, ← List.append_assoc]
        exact k2
theorem rdGo_body : ∀ (L : List Pr) (f i : Nat) (prev : List Nat) (acc : List Pr), (∀ p ∈ L, okP p) → (bodyB i prev L).length ≤ f → rdGo f i prev acc (bodyB i prev L, false) = (acc ++ L, false)
  | [], f, i, prev, acc, _, _ => by
    cases f with
    | zero => simp [rdGo]
    | succ f => rw [rdGo]; simp [bodyB]
  | p :: r, f, i, prev, acc, hok, hf => by
    have hpl := pairB_len (ahd i prev) p
    have hz := M.sz_pos (alk (ahd i prev) p.1)
    rw [bodyB, List.length_append] at hf
    cases f with
    | zero => omega
    | succ f =>
      have hne : ¬ bodyB i prev (p :: r) = [] := by
        intro e
        have := congrArg List.length e
        rw [bodyB, List.length_append, hpl] at this
        simp only [List.length_nil] at this
        omega
      rw [rdGo, if_neg hne]
      have hr := rdP_pair (ahd i prev) p (hok p (by simp)) (bodyB (i + 1) p.1 r) false
      rw [← bodyB] at hr
      simp only [hr]
      rw [rdGo_body r f (i + 1) p.1 (acc ++ [p]) (fun q hq => hok q (by simp [hq])) (by omega)]
      simp
theorem stsB_len : ∀ (L : List Pr) (i n : Nat) (prev : List Nat), (stsB i n prev L).length ≤ L.length
  | [], _, _, _ => by simp [stsB]
  | p :: r, i, n, prev => by
    have := stsB_len r (i + 1) (n + (pairB (ahd i prev) p).length) p.1
    rw [stsB, List.length_append, List.length_cons]
    split <;> simp <;> omega
/-- What is made is read as it was. -/
theorem read_made (L : List Pr) (hok : ∀ p ∈ L, okP p) (hl : L.length ≤ 1000000) (h : (mk L).2 = 0) : readM (mk L).1 = (L, true) := by
  obtain ⟨k1, k2⟩ := mkGo_ok L 0 [] [] [] (by simp) h
  simp only [List.nil_append, List.length_nil] at k1 k2
  have hs := stsB_len L 0 0 []
  have e0 : (mk L).1 = bodyB 0 [] L ++ les (stsB 0 0 [] L) ++ M.leB (stsB 0 0 [] L).length 4 := k1
  rw [e0]
  generalize stsB 0 0 [] L = S at *
  have hb := rdGo_body L (bodyB 0 [] L).length 0 [] [] hok (Nat.le_refl _)
  generalize hB : bodyB 0 [] L = B at *
  have hlen : (B ++ les S ++ M.leB S.length 4).length = B.length + 4 * S.length + 4 := by simp only [List.length_append, les_len, M.leB_len]
  have hd : (B ++ les S ++ M.leB S.length 4).drop ((B ++ les S ++ M.leB S.length 4).length - 4) = M.leB S.length 4 := by
    have : (B ++ les S ++ M.leB S.length 4).length - 4 = (B ++ les S).length := by rw [hlen]; simp [les_len]
    rw [this, List.drop_left]
  have hv : M.lv (M.leB S.length 4) 4 = S.length := by
    have := M.lv_leB S.length 4 []
    rw [List.append_nil] at this
    rw [this]
    have e4 : (256 : Nat) ^ 4 = 4294967296 := by decide
    rw [e4]
    omega
  have hbl : bodyLen (B ++ les S ++ M.leB S.length 4) = B.length := by
    unfold bodyLen
    rw [hd, hv, hlen]
    omega
  have hco : cutOk (B ++ les S ++ M.leB S.length 4) = true := by
    unfold cutOk
    rw [hbl, hd, hv, hlen]
    simp only [Bool.and_eq_true, decide_eq_true_eq]
    omega
  unfold readM
  rw [if_pos hco, hbl]
  have ht : (B ++ les S ++ M.leB S.length 4).take B.length = B := by rw [List.append_assoc, List.take_left]
  rw [ht, hb]
  simp
theorem parse_mk (L : List Pr) (hok : ∀ p ∈ L, okP p) (hl : L.length ≤ 1000000) (h : (mk L).2 = 0) : parseOk (mk L).1 = true ∧ parL (mk L).1 = L := by
  have hr := read_made L hok hl h
  have hp : parseOk (mk L).1 = true := by
    unfold parseOk
    rw [hr]
    simp [h]
  exact ⟨hp, by unfold parL; rw [if_pos hp, hr]⟩
end Go.Proofs.Ytalcdmpjpphopaa
