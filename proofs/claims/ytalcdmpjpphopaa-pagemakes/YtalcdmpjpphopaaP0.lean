/- Pages: the model. -/
import Derived.Test.YtalcdmpjpphopaaNW5
import Derived.Test.YtalcdmpjpphopaaApp
namespace Go.Proofs.Ytalcdmpjpphopaa
set_option linter.unusedSimpArgs false
set_option linter.unusedVariables false

abbrev Pr := List Nat × List Nat
def alk : List Nat → List Nat → Nat
  | x :: a, y :: b => if x = y then alk a b + 1 else 0
  | _, _ => 0
theorem alk_le : ∀ a b, alk a b ≤ a.length ∧ alk a b ≤ b.length
  | [], _ => ⟨by simp [alk], by simp [alk]⟩
  | _ :: _, [] => ⟨by simp [alk], by simp [alk]⟩
  | x :: a, y :: b => by
    have := alk_le a b
    rw [alk]
    split <;> simp <;> omega
def leL (a b : List Nat) : Bool := Op.bytesLess (strB a).toList (strB b).toList || (strB a).toList == (strB b).toList
def ahd (i : Nat) (prev : List Nat) : List Nat := if i % 8 = 0 then [] else prev
def pairB (a : List Nat) (p : Pr) : List Nat := M.putB (alk a p.1) ++ M.putB (p.1.length - alk a p.1) ++ M.putB p.2.length ++ p.1.drop (alk a p.1) ++ p.2
theorem pairB_len (a : List Nat) (p : Pr) : (pairB a p).length = M.sz (alk a p.1) + M.sz (p.1.length - alk a p.1) + M.sz p.2.length + (p.1.length - alk a p.1) + p.2.length := by
  simp [pairB, M.putB_len, List.length_append]
  omega
def les : List Nat → List Nat
  | [] => []
  | x :: r => M.leB x 4 ++ les r
theorem les_len : ∀ l, (les l).length = 4 * l.length
  | [] => rfl
  | x :: r => by rw [les, List.length_append, les_len r, M.leB_len, List.length_cons]; omega
theorem les_snoc : ∀ l x, les (l ++ [x]) = les l ++ M.leB x 4
  | [], x => by simp [les]
  | y :: r, x => by rw [List.cons_append, les, les_snoc r x, les, List.append_assoc]
/-- Make, from the i-th pair on. -/
def mkGo (i : Nat) (prev b st : List Nat) : List Pr → List Nat × Nat
  | [] => (b ++ les st ++ M.leB st.length 4, 0)
  | p :: r =>
    if decide (0 < i) && leL p.1 prev then ([], 1)
    else if 262144 < (b ++ pairB (ahd i prev) p).length then ([], 6)
    else mkGo (i + 1) p.1 (b ++ pairB (ahd i prev) p) (if i % 8 = 0 then st ++ [b.length] else st) r
def mk (L : List Pr) : List Nat × Nat := mkGo 0 [] [] [] L

/-- Where the last byte of a number stands. -/
def ld : List Nat → Nat → Nat
  | c :: r, f + 1 => if c < 128 then 0 else ld r f + 1
  | _, _ => 0
theorem ld_lead : ∀ (f : Nat) (bs : List Nat), ld bs f ≤ bs.length ∧ ld bs f ≤ f ∧ (∀ j, j < ld bs f → 128 ≤ bs.getD j 0) ∧ (ld bs f = bs.length ∨ ld bs f = f ∨ bs.getD (ld bs f) 0 < 128)
  | 0, [] => ⟨by simp [ld], by simp [ld], by simp [ld], by simp [ld]⟩
  | 0, _ :: _ => ⟨by simp [ld], by simp [ld], by simp [ld], by simp [ld]⟩
  | _ + 1, [] => ⟨by simp [ld], by simp [ld], by simp [ld], by simp [ld]⟩
  | f + 1, c :: r => by
    obtain ⟨h1, h2, h3, h4⟩ := ld_lead f r
    rw [ld]
    split
    · next h => exact ⟨by omega, by omega, fun j hj => by omega, .inr (.inr (by simpa using h))⟩
    · next h =>
      refine ⟨by simp; omega, by omega, fun j hj => ?_, ?_⟩
      · cases j with
        | zero => simp; omega
        | succ j => simpa using h3 j (by omega)
      · rcases h4 with h4 | h4 | h4
        · left; simp [h4]
        · right; left; omega
        · right; right; simpa using h4
theorem lead9 (bs : List Nat) : M.Lead bs (ld bs 9) := by
  obtain ⟨h1, h2, h3, h4⟩ := ld_lead 9 bs
  exact ⟨h1, h2, h3, h4⟩

abbrev St := List Nat × Bool
def bad : St := ([], true)
def rdN (s : St) : Nat × St := if M.ge s.1 (ld s.1 9) = 0 then (M.gn s.1 (ld s.1 9), (s.1.drop (ld s.1 9 + 1), s.2)) else (0, bad)
def rdT (s : St) (n : Nat) : List Nat × St := if s.1.length < n then ([], bad) else (s.1.take n, (s.1.drop n, s.2))
def rdP (s : St) (a : List Nat) : Pr × St :=
  if a.length < (rdN s).1 then (([], []), bad)
  else ((a.take (rdN s).1 ++ (rdT (rdN (rdN (rdN s).2).2).2 (rdN (rdN s).2).1).1, (rdT (rdT (rdN (rdN (rdN s).2).2).2 (rdN (rdN s).2).1).2 (rdN (rdN (rdN s).2).2).1).1), (rdT (rdT (rdN (rdN (rdN s).2).2).2 (rdN (rdN s).2).1).2 (rdN (rdN (rdN s).2).2).1).2)
theorem rdN_le (s : St) : (rdN s).2.1.length ≤ s.1.length ∧ (s.1 ≠ [] → (rdN s).2.1.length < s.1.length) := by
  unfold rdN
  split
  · simp
    cases s.1 with
    | nil => simp
    | cons a r => simp; omega
  · simp [bad]
    intro h
    exact List.length_pos_iff.2 h
theorem rdT_le (s : St) (n : Nat) : (rdT s n).2.1.length + (rdT s n).1.length ≤ s.1.length := by
  unfold rdT
  split
  · simp [bad]
  · simp; omega
theorem rdP_le (s : St) (a : List Nat) (h : s.1 ≠ []) : (rdP s a).2.1.length < s.1.length := by
  have h1 := (rdN_le s).2 h
  have h2 := (rdN_le (rdN s).2).1
  have h3 := (rdN_le (rdN (rdN s).2).2).1
  unfold rdP
  split
  · exact List.length_pos_iff.2 h
  · have h4 := rdT_le (rdN (rdN (rdN s).2).2).2 (rdN (rdN s).2).1
    have h5 := rdT_le (rdT (rdN (rdN (rdN s).2).2).2 (rdN (rdN s).2).1).2 (rdN (rdN (rdN s).2).2).1
    simp only
    omega
/-- read, from the i-th pair on. -/
def rdGo : Nat → Nat → List Nat → List Pr → St → List Pr × Bool
  | 0, _, _, acc, s => (acc, s.2)
  | f + 1, i, prev, acc, s => if s.1 = [] then (acc, s.2) else rdGo f (i + 1) (rdP s (ahd i prev)).1.1 (acc ++ [(rdP s (ahd i prev)).1]) (rdP s (ahd i prev)).2
def bodyLen (bs : List Nat) : Nat := bs.length - 4 - M.lv (bs.drop (bs.length - 4)) 4 * 4
def cutOk (bs : List Nat) : Bool := decide (4 ≤ bs.length) && decide (M.lv (bs.drop (bs.length - 4)) 4 ≤ (bs.length - 4) / 4) && decide (bodyLen bs ≤ 262144)
def readM (bs : List Nat) : List Pr × Bool := if cutOk bs then ((rdGo (bodyLen bs) 0 [] [] (bs.take (bodyLen bs), false)).1, !(rdGo (bodyLen bs) 0 [] [] (bs.take (bodyLen bs), false)).2) else ([], false)
def parseOk (bs : List Nat) : Bool := (readM bs).2 && decide ((mk (readM bs).1).2 = 0) && decide ((mk (readM bs).1).1 = bs)
theorem parse_made (bs : List Nat) (h : parseOk bs = true) : mk (readM bs).1 = (bs, 0) := by
  unfold parseOk at h
  simp only [Bool.and_eq_true, decide_eq_true_eq] at h
  obtain ⟨⟨_, h1⟩, h2⟩ := h
  exact Prod.ext h2 h1
def b1 : List Nat := [0, 1, 1, 97, 120, 0, 0, 0, 0, 1, 0, 0, 0]
theorem mk_nil : mk [] = ([0, 0, 0, 0], 0) := by decide +kernel
theorem mk_one : mk [([97], [120])] = (b1, 0) := by decide +kernel
theorem read_one : readM b1 = ([([97], [120])], true) := by decide +kernel
theorem parse_one : parseOk b1 = true := by unfold parseOk; rw [read_one, mk_one]; decide
end Go.Proofs.Ytalcdmpjpphopaa
