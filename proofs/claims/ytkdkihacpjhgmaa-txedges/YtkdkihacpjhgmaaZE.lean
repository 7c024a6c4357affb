/- The transactions at the bounds: how long they are, what is wrong with them. -/
import Derived.Test.YtkdkihacpjhgmaaZ2
namespace Go.Proofs.Ytkdkihacpjhgmaa
set_option linter.unusedSimpArgs false
set_option linter.unusedVariables false
open Go.RowKit

def ZI : TIn := ⟨z32, 0, [], 0, []⟩
def ZO : TOut := ⟨0, []⟩
def Ed0 (n : Nat) : PTx := { ver := 0, ins := List.replicate n ZI, outs := [ZO], lock := 0 }
def Ed1 (n : Nat) : PTx := { ver := 0, ins := [ZI], outs := List.replicate n ZO, lock := 0 }
def Ed2 (n : Nat) : PTx := { ver := 0, ins := [{ ZI with wit := List.replicate n [] }], outs := [ZO], lock := 0 }
def Ed3 (n : Nat) : PTx := { ver := 0, ins := [ZI], outs := [⟨0, List.replicate n 0⟩], lock := 0 }
theorem chkL_rep : ∀ n, chkL (List.replicate n ZI) = 0
  | 0 => rfl
  | n + 1 => by
    rw [List.replicate_succ, chkL, if_pos (by decide), chkL_rep n]
theorem any_rep (n : Nat) : (List.replicate n ZO).any (fun o => decide (10000 < o.sc.length)) = false := by
  rw [List.any_eq_false]
  intro x hx
  rw [List.eq_of_mem_replicate hx]
  decide
theorem has_rep (n : Nat) : (List.replicate n ZI).any (fun x => decide (0 < x.wit.length)) = false := by
  rw [List.any_eq_false]
  intro x hx
  rw [List.eq_of_mem_replicate hx]
  decide
theorem flat_rep {α β : Type} (f : α → List β) (x : α) : ∀ n, ((List.replicate n x).flatMap f).length = n * (f x).length
  | 0 => by simp
  | n + 1 => by rw [List.replicate_succ, List.flatMap_cons, List.length_append, flat_rep f x n, Nat.succ_mul]; omega
theorem sumI_rep : ∀ n, sumI (List.replicate n ZI) = 0
  | 0 => rfl
  | n + 1 => by rw [List.replicate_succ, sumI, sumI_rep n]; rfl
theorem sumO_rep : ∀ n, sumO (List.replicate n ZO) = 0
  | 0 => rfl
  | n + 1 => by rw [List.replicate_succ, sumO, sumO_rep n]; rfl
theorem sumL_rep : ∀ n, sumL (List.replicate n []) = 0
  | 0 => rfl
  | n + 1 => by rw [List.replicate_succ, sumL, sumL_rep n]; rfl
theorem wany_rep (n : Nat) : (List.replicate n ([] : List Nat)).any (fun p => decide (10000 < p.length)) = false := by
  rw [List.any_eq_false]
  intro x hx
  rw [List.eq_of_mem_replicate hx]
  decide
theorem encE_of {t : PTx} (h1 : chk t = 0) (h2 : textN t ≤ 65536) (h3 : (layB t (hasW t)).length ≤ 65536) : encE t = 0 := by
  unfold encE
  rw [if_neg (by rw [h1]; simp), if_neg (by omega), if_neg (by omega)]
theorem encE_no {t : PTx} (h1 : chk t ≠ 0) : encE t = chk t := by
  unfold encE
  rw [if_pos h1]
theorem ed0_ok : chk (Ed0 1024) = 0 ∧ encE (Ed0 1024) = 0 := by
  have h1 : chk (Ed0 1024) = 0 := by
    unfold chk Ed0
    simp only [List.length_replicate, chkL_rep]
    decide
  refine ⟨h1, encE_of h1 ?_ ?_⟩
  · unfold textN Ed0
    simp only [sumI_rep]
    decide
  · have hh : hasW (Ed0 1024) = false := has_rep 1024
    rw [hh]
    unfold layB preB Ed0
    simp only [List.length_append, M.leB_len, flat_rep, List.length_replicate, List.flatMap_cons, List.flatMap_nil]
    decide
theorem ed0_no : chk (Ed0 1025) = 3 ∧ encE (Ed0 1025) = 3 := by
  have h1 : chk (Ed0 1025) = 3 := by
    unfold chk Ed0
    simp only [List.length_replicate]
    decide
  exact ⟨h1, by rw [encE_no (by rw [h1]; simp), h1]⟩
theorem ed1_ok : chk (Ed1 1024) = 0 ∧ encE (Ed1 1024) = 0 := by
  have h1 : chk (Ed1 1024) = 0 := by
    unfold chk Ed1
    simp only [List.length_replicate, any_rep]
    decide
  refine ⟨h1, encE_of h1 ?_ ?_⟩
  · unfold textN Ed1
    simp only [sumO_rep]
    decide
  · have hh : hasW (Ed1 1024) = false := rfl
    rw [hh]
    unfold layB preB Ed1
    simp only [List.length_append, M.leB_len, flat_rep, List.length_replicate, List.flatMap_cons, List.flatMap_nil]
    decide
theorem ed1_no : chk (Ed1 1025) = 3 ∧ encE (Ed1 1025) = 3 := by
  have h1 : chk (Ed1 1025) = 3 := by
    unfold chk Ed1
    simp only [List.length_replicate]
    decide
  exact ⟨h1, by rw [encE_no (by rw [h1]; simp), h1]⟩
theorem ed2_ok : chk (Ed2 100) = 0 ∧ encE (Ed2 100) = 0 := by decide +kernel
theorem ed2_no : chk (Ed2 101) = 3 ∧ encE (Ed2 101) = 3 := by decide +kernel
theorem ed3_ok : chk (Ed3 10000) = 0 ∧ encE (Ed3 10000) = 0 := by
  have h1 : chk (Ed3 10000) = 0 := by
    unfold chk Ed3
    simp only [List.any_cons, List.any_nil, List.length_replicate]
    decide
  refine ⟨h1, encE_of h1 ?_ ?_⟩
  · unfold textN Ed3
    simp only [sumO, List.length_replicate]
    decide
  · have hh : hasW (Ed3 10000) = false := rfl
    rw [hh]
    unfold layB preB Ed3
    simp only [outB, txt, List.length_append, M.leB_len, List.length_replicate, List.flatMap_cons, List.flatMap_nil]
    decide
theorem ed3_no : chk (Ed3 10001) = 6 ∧ encE (Ed3 10001) = 6 := by
  have h1 : chk (Ed3 10001) = 6 := by
    unfold chk Ed3
    simp only [List.any_cons, List.any_nil, List.length_replicate]
    decide
  exact ⟨h1, by rw [encE_no (by rw [h1]; simp), h1]⟩
end Go.Proofs.Ytkdkihacpjhgmaa
