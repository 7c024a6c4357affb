/- What a record with turned bits is. -/
import Derived.Test.YtahbhaphodgomabDoorAlsM
import Derived.Test.YtahbhaphodgomabDoorNum
namespace Go.Proofs.YtahbhaphodgomabDoor
set_option linter.unusedSimpArgs false
set_option linter.unusedVariables false
open Go.RowKit

theorem ck_ne (s l : List Nat) (hs : ∀ c ∈ s, c < 256) (hl : ∀ c ∈ l, c < 256) (h : nt (crcR (nt 0) s) ≠ nt (crcR (nt 0) l)) : ck s ≠ ck l := by
  have h1 : nt (crcR (nt 0) s) < 4294967296 := nt_lt _ (crcR_lt s (nt 0) (nt_lt 0 (by omega)) hs)
  have h2 : nt (crcR (nt 0) l) < 4294967296 := nt_lt _ (crcR_lt l (nt 0) (nt_lt 0 (by omega)) hl)
  intro e
  apply h
  have e1 : mk (nt (crcR (nt 0) s)) = mk (nt (crcR (nt 0) l)) := e
  clear e h
  generalize nt (crcR (nt 0) s) = a at *
  generalize nt (crcR (nt 0) l) = b at *
  have r1 := rotR_lt a h1
  have r2 := rotR_lt b h2
  have e2 : rotR a = rotR b := by unfold mk at e1; omega
  have e3 := congrArg rotL e2
  rwa [rotL_rotR a h1, rotL_rotR b h2] at e3

/-- What is turned: the length, or the bytes; what stands ahead of it, and behind it. -/
def tl (d : List Nat) (b : Bool) : List Nat := if b then M.leB d.length 4 else d
def tP (ds : List (List Nat)) (W : Nat) (d : List Nat) (b : Bool) : List Nat := if b then recs (ds.take W) else recs (ds.take W) ++ hdr d
def tR (ds : List (List Nat)) (W : Nat) (d : List Nat) (b : Bool) : List Nat := if b then (M.leB (ck (M.leB d.length 4)) 4 ++ M.leB (ck d) 4) ++ (d ++ recs (ds.drop (W + 1))) else recs (ds.drop (W + 1))

theorem recs_at (ds : List (List Nat)) (W : Nat) (hW : W < ds.length) : recs ds = recs (ds.take W) ++ (recB ds[W] ++ recs (ds.drop (W + 1))) := by
  have h : ds = ds.take W ++ (ds[W] :: ds.drop (W + 1)) := by rw [← List.drop_eq_getElem_cons hW, List.take_append_drop]
  refine (congrArg recs h).trans ?_
  rw [recs, List.flatMap_append, List.flatMap_cons]
  rfl
theorem turn_parts (ds : List (List Nat)) (W : Nat) (hW : W < ds.length) (b : Bool) : recs ds = tP ds W ds[W] b ++ (tl ds[W] b ++ tR ds W ds[W] b) := by
  rw [recs_at ds W hW]
  cases b <;> simp [tP, tl, tR, recB, hdr]
theorem tP_len (ds : List (List Nat)) (W : Nat) (d : List Nat) (b : Bool) : (tP ds W d b).length = eN ds W + (if b then 0 else 12) := by
  cases b <;> simp [tP, eN, hdr_len]
theorem tl_len (d : List Nat) (b : Bool) : (tl d b).length = if b then 4 else d.length := by cases b <;> simp [tl, M.leB_len]

theorem lv4_app (s r : List Nat) (h : s.length = 4) : lv4 (s ++ r) = M.lv s 4 := by
  rw [← lv4_take (s ++ r), List.take_append_of_le_length (by omega), List.take_of_length_le (by omega)]

/-- The turned record is bad. -/
theorem turn_bad (ds : List (List Nat)) (W : Nat) (hW : W < ds.length) (b : Bool) (hd : ds[W].length ≤ 200) (s : List Nat) (hs : s.length = (tl ds[W] b).length) (hck : ck s ≠ ck (tl ds[W] b)) :
    nE ((tP ds W ds[W] b ++ (s ++ tR ds W ds[W] b)).drop (eN ds W)) = 12 := by
  generalize ds[W] = d at *
  cases b with
  | true =>
    have hs4 : s.length = 4 := by rw [hs, tl_len]; rfl
    have e : (tP ds W d true ++ (s ++ tR ds W d true)).drop (eN ds W) = s ++ (M.leB (ck (M.leB d.length 4)) 4 ++ (M.leB (ck d) 4 ++ (d ++ recs (ds.drop (W + 1))))) := by
      simp [tP, tR, eN]
    rw [e, nE, if_neg (by simp [M.leB_len, hs4]; omega), if_pos (Or.inl ?_)]
    rw [List.drop_append_of_le_length (by omega), List.drop_of_length_le (by omega), List.nil_append, lv4_leB _ _ (ck_lt _), List.take_append_of_le_length (by omega), List.take_of_length_le (by omega)]
    exact fun h => hck h.symm
  | false =>
    have hsd : s.length = d.length := by rw [hs, tl_len]; rfl
    have e : (tP ds W d false ++ (s ++ tR ds W d false)).drop (eN ds W) = M.leB d.length 4 ++ (M.leB (ck (M.leB d.length 4)) 4 ++ (M.leB (ck d) 4 ++ (s ++ recs (ds.drop (W + 1))))) := by
      simp [tP, tR, eN, hdr]
    rw [e]
    have l4 := M.leB_len d.length 4
    have l5 := M.leB_len (ck (M.leB d.length 4)) 4
    have l6 := M.leB_len (ck d) 4
    have v1 : lv4 (M.leB d.length 4 ++ (M.leB (ck (M.leB d.length 4)) 4 ++ (M.leB (ck d) 4 ++ (s ++ recs (ds.drop (W + 1)))))) = d.length := lv4_leB _ _ (by omega)
    have t4 : (M.leB d.length 4 ++ (M.leB (ck (M.leB d.length 4)) 4 ++ (M.leB (ck d) 4 ++ (s ++ recs (ds.drop (W + 1)))))).take 4 = M.leB d.length 4 := by
      rw [List.take_append_of_le_length (by omega), List.take_of_length_le (by omega)]
    have d4 : (M.leB d.length 4 ++ (M.leB (ck (M.leB d.length 4)) 4 ++ (M.leB (ck d) 4 ++ (s ++ recs (ds.drop (W + 1)))))).drop 4 = M.leB (ck (M.leB d.length 4)) 4 ++ (M.leB (ck d) 4 ++ (s ++ recs (ds.drop (W + 1)))) := by
      rw [List.drop_append_of_le_length (by omega), List.drop_of_length_le (by omega), List.nil_append]
    have d8 : (M.leB d.length 4 ++ (M.leB (ck (M.leB d.length 4)) 4 ++ (M.leB (ck d) 4 ++ (s ++ recs (ds.drop (W + 1)))))).drop 8 = M.leB (ck d) 4 ++ (s ++ recs (ds.drop (W + 1))) := by
      rw [show (8 : Nat) = 4 + 4 from rfl, ← List.drop_drop, d4, List.drop_append_of_le_length (by omega), List.drop_of_length_le (by omega), List.nil_append]
    have d12 : (M.leB d.length 4 ++ (M.leB (ck (M.leB d.length 4)) 4 ++ (M.leB (ck d) 4 ++ (s ++ recs (ds.drop (W + 1)))))).drop 12 = s ++ recs (ds.drop (W + 1)) := by
      rw [show (12 : Nat) = 8 + 4 from rfl, ← List.drop_drop, d8, List.drop_append_of_le_length (by omega), List.drop_of_length_le (by omega), List.nil_append]
    rw [nE, if_neg (by simp [l4, l5, l6]; omega), if_neg (by rw [d4, t4, v1, lv4_leB _ _ (ck_lt _)]; rintro (h | h); exact h rfl; omega), if_neg (by rw [v1]; simp [l4, l5, l6, hsd]; omega), if_pos ?_]
    rw [d8, d12, v1, lv4_leB _ _ (ck_lt _), List.take_append_of_le_length (by omega), List.take_of_length_le (by omega)]
    exact fun h => hck h.symm

/-- What stands ahead of the turned record is as it was. -/
theorem turn_ahead (ds : List (List Nat)) (W : Nat) (hW : W < ds.length) (b : Bool) (X : List Nat) (q : Nat) (hq : q < W) :
    ∃ rest, (tP ds W ds[W] b ++ X).drop (eN ds q) = recB (ds[q]'(by omega)) ++ rest := by
  have e : ∃ Y, tP ds W ds[W] b ++ X = recs (ds.take W) ++ Y := by
    cases b
    · exact ⟨hdr ds[W] ++ X, by simp [tP]⟩
    · exact ⟨X, by simp [tP]⟩
  obtain ⟨Y, e⟩ := e
  rw [e]
  have h1 := recs_at (ds.take W) q (by simp; omega)
  have h2 : (ds.take W)[q]'(by simp; omega) = ds[q]'(by omega) := by simp
  rw [h2, List.take_take, show min q W = q by omega] at h1
  rw [h1]
  refine ⟨recs ((ds.take W).drop (q + 1)) ++ Y, ?_⟩
  unfold eN
  rw [List.append_assoc, List.drop_append_of_le_length (Nat.le_refl _), List.drop_of_length_le (Nat.le_refl _), List.nil_append, List.append_assoc]

theorem turn_chain (ds : List (List Nat)) (hd : ∀ d ∈ ds, d.length ≤ 200) (W : Nat) (hW : W < ds.length) (m : List Nat)
    (ha : ∀ q, (hq : q < W) → ∃ rest, m.drop (eN ds q) = recB (ds[q]'(by omega)) ++ rest) (hbad : nE (m.drop (eN ds W)) = 12)
    {es : List (List Nat)} {a : Nat} (h : Chain m es a) : es.length ≤ W ∧ a = eN ds es.length := by
  induction h with
  | nil => exact ⟨Nat.zero_le _, by simp [eN_zero]⟩
  | snoc hc h0 ih =>
    rename_i es a
    obtain ⟨i1, i2⟩ := ih
    subst i2
    by_cases he : es.length = W
    · rw [he, hbad] at h0; cases h0
    · have hlt : es.length < W := by omega
      obtain ⟨rest, e⟩ := ha es.length hlt
      have hl := hd (ds[es.length]'(by omega)) (List.getElem_mem _)
      obtain ⟨r1, r2, r3⟩ := next_rec (ds[es.length]'(by omega)) rest (by omega)
      rw [e, r2, r3]
      have hs := eN_succ ds es.length (by omega)
      simp only [List.length_append, List.length_singleton]
      exact ⟨by omega, by omega⟩
theorem turn_end (ds : List (List Nat)) (hd : ∀ d ∈ ds, d.length ≤ 200) (W : Nat) (hW : W < ds.length) (m : List Nat)
    (ha : ∀ q, (hq : q < W) → ∃ rest, m.drop (eN ds q) = recB (ds[q]'(by omega)) ++ rest) (hbad : nE (m.drop (eN ds W)) = 12)
    {es : List (List Nat)} {a : Nat} (h : Chain m es a) (hE : nE (m.drop a) ≠ 0) : es.length = W ∧ a = eN ds W ∧ nE (m.drop a) = 12 := by
  obtain ⟨h1, h2⟩ := turn_chain ds hd W hW m ha hbad h
  subst h2
  by_cases he : es.length = W
  · rw [he]; exact ⟨rfl, rfl, hbad⟩
  · obtain ⟨rest, e⟩ := ha es.length (by omega)
    have hl := hd (ds[es.length]'(by omega)) (List.getElem_mem _)
    obtain ⟨r1, r2, r3⟩ := next_rec (ds[es.length]'(by omega)) rest (by omega)
    rw [e] at hE
    exact absurd r1 hE
/-- One more bit turned, of the part that is turned. -/
theorem set_mid (P s R : List Nat) (q z : Nat) (hq : q < s.length) : (P ++ (s ++ R)).set (P.length + q) z = P ++ (s.set q z ++ R) := by
  rw [List.set_append_right _ _ (by omega), show P.length + q - P.length = q by omega, List.set_append_left _ _ hq]
theorem get_mid (P s R : List Nat) (q : Nat) (hq : q < s.length) : (P ++ (s ++ R)).getD (P.length + q) 0 = s.getD q 0 := by
  simp only [List.getD]
  rw [List.getElem?_append_right (by omega), show P.length + q - P.length = q by omega, List.getElem?_append_left hq]
end Go.Proofs.YtahbhaphodgomabDoor
