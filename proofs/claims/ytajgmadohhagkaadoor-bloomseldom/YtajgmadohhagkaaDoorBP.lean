/- The bits of a key, the filter of keys: pure. -/
import Derived.Test.YtajgmadohhagkaaDoorBS
import Derived.Test.YtajgmadohhagkaaDoorMsk
namespace Go.Proofs.YtajgmadohhagkaaDoor
set_option linter.unusedSimpArgs false
set_option linter.unusedVariables false

def ksum (s : List Nat) : Nat := nt (crcR (nt 0) s)
def kstp (s : List Nat) : Nat := mk (ksum s) ||| 1
def ka (s : List Nat) : Nat → Nat
  | 0 => ksum s
  | k + 1 => (ka s k + kstp s) % 4294967296
def kp (n : Nat) (s : List Nat) (k : Nat) : Nat := ka s k * (8 * n) / 4294967296
theorem ksum_lt (s : List Nat) (hs : ∀ c ∈ s, c < 256) : ksum s < 4294967296 := nt_lt _ (crcR_lt s _ (nt_lt 0 (by omega)) hs)
theorem ka_lt (s : List Nat) (hs : ∀ c ∈ s, c < 256) : ∀ k, ka s k < 4294967296
  | 0 => ksum_lt s hs
  | k + 1 => Nat.mod_lt _ (by decide)
theorem kstp_lt (s : List Nat) : kstp s < 4294967296 := by
  have e : (4294967296 : Nat) = 2 ^ 32 := by decide
  have h := mk_lt (ksum s)
  unfold kstp
  rw [e] at h ⊢
  exact Nat.or_lt_two_pow h (by decide)
theorem kp_lt (n : Nat) (s : List Nat) (hs : ∀ c ∈ s, c < 256) (hn : 0 < n) (k : Nat) : kp n s k < 8 * n := by
  unfold kp
  refine Nat.div_lt_of_lt_mul ?_
  exact Nat.mul_lt_mul_of_pos_right (ka_lt s hs k) (by omega)
theorem kp_byte (n : Nat) (s : List Nat) (hs : ∀ c ∈ s, c < 256) (hn : 0 < n) (k : Nat) : kp n s k / 8 < n := by
  have := kp_lt n s hs hn k
  omega
def addK (n : Nat) (l : List Nat) (s : List Nat) : List Nat := setN l (kp n s) 6
def mkF (n : Nat) (N : List (List Nat)) : List Nat := N.foldl (addK n) (List.replicate n 0)
theorem addK_len (n : Nat) (l s : List Nat) : (addK n l s).length = l.length := setN_len _ _ _
theorem mkF_snoc (n : Nat) (N : List (List Nat)) (s : List Nat) : mkF n (N ++ [s]) = addK n (mkF n N) s := by simp [mkF, List.foldl_append]
theorem fold_len (n : Nat) : ∀ (N : List (List Nat)) (l : List Nat), (N.foldl (addK n) l).length = l.length
  | [], l => rfl
  | s :: r, l => by rw [List.foldl_cons, fold_len n r, addK_len]
theorem mkF_len (n : Nat) (N : List (List Nat)) : (mkF n N).length = n := by unfold mkF; rw [fold_len]; simp
theorem fold_lt (n : Nat) : ∀ (N : List (List Nat)) (l : List Nat), (∀ c ∈ l, c < 256) → ∀ c ∈ N.foldl (addK n) l, c < 256
  | [], l, h => h
  | s :: r, l, h => fold_lt n r (addK n l s) (setN_lt l h _ _)
theorem mkF_lt (n : Nat) (N : List (List Nat)) : ∀ c ∈ mkF n N, c < 256 := fold_lt n N _ (by
  intro c hc
  have := List.eq_of_mem_replicate hc
  omega)
theorem hasB_fold (n j : Nat) (hn : 0 < n) : ∀ (N : List (List Nat)) (l : List Nat), l.length = n → (∀ s ∈ N, ∀ c ∈ s, c < 256) → hasB (N.foldl (addK n) l) j = (hasB l j || N.any fun s => anyN (kp n s) j 6)
  | [], l, _, _ => by simp
  | s :: r, l, h, hs => by
    rw [List.foldl_cons, hasB_fold n j hn r (addK n l s) (by rw [addK_len, h]) (fun t ht => hs t (by simp [ht])), addK, hasB_setN l _ (fun k => by rw [h]; exact kp_byte n s (hs s (by simp)) hn k), List.any_cons, Bool.or_assoc]
theorem hasB_mkF (n j : Nat) (hn : 0 < n) (N : List (List Nat)) (hs : ∀ s ∈ N, ∀ c ∈ s, c < 256) : hasB (mkF n N) j = N.any fun s => anyN (kp n s) j 6 := by
  unfold mkF
  rw [hasB_fold n j hn N _ (by simp) hs, hasB_zero, Bool.false_or]
theorem mkF_rev (n : Nat) (hn : 0 < n) (N : List (List Nat)) (hs : ∀ s ∈ N, ∀ c ∈ s, c < 256) : mkF n N.reverse = mkF n N := by
  refine rows_ext _ _ (mkF_lt _ _) (mkF_lt _ _) (by rw [mkF_len, mkF_len]) fun j _ => ?_
  rw [hasB_mkF n j hn N hs, hasB_mkF n j hn N.reverse (fun s h => hs s (by simpa using h)), List.any_reverse]

/-- Whether a key may be among those of a filter's bytes. -/
def mayB (l s : List Nat) : Bool := decide (0 < l.length) && allN l (kp l.length s) 6
theorem may_in (n : Nat) (hn : 0 < n) (N : List (List Nat)) (hs : ∀ s ∈ N, ∀ c ∈ s, c < 256) (s : List Nat) (h : s ∈ N) : mayB (mkF n N) s = true := by
  unfold mayB
  rw [mkF_len, decide_eq_true hn, Bool.true_and]
  refine allN_of _ _ _ fun j hj => ?_
  rw [hasB_mkF n _ hn N hs, List.any_eq_true]
  exact ⟨s, h, anyN_at _ _ _ hj⟩
theorem may_none (n : Nat) (hn : 0 < n) (s : List Nat) : mayB (mkF n []) s = false := by
  unfold mayB
  rw [mkF_len, decide_eq_true hn, Bool.true_and]
  refine allN_no _ _ 0 6 (by decide) ?_
  rw [hasB_mkF n _ hn [] (by simp)]
  rfl
def fsz (k : Nat) : Nat := max 8 ((10 * k + 7) / 8)
theorem fsz_pos (k : Nat) : 0 < fsz k := by unfold fsz; omega
end Go.Proofs.YtajgmadohhagkaaDoor
