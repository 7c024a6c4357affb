/- BloomSeldom: the reckoning. -/
import Derived.Test.YtajgmadohhagkaaDoorBP
namespace Go.Proofs.YtajgmadohhagkaaDoor
set_option linter.unusedSimpArgs false
set_option linter.unusedVariables false

def force {α : Type} (x : Nat) (g : Nat → α) : α := match x with
  | 0 => g 0
  | r + 1 => g (r + 1)
theorem force_eq {α : Type} (x : Nat) (g : Nat → α) : force x g = g x := by cases x <;> rfl
def kx (k : Nat) : List Nat := [107, 101, 121] ++ List.replicate k 120
def ky (k : Nat) : List Nat := [111, 116, 104, 101, 114] ++ List.replicate k 121
def kxs : Nat → List (List Nat)
  | 0 => []
  | k + 1 => kxs k ++ [kx k]
theorem kxs_len : ∀ k, (kxs k).length = k
  | 0 => rfl
  | k + 1 => by simp [kxs, kxs_len k]
theorem kx_ok (k : Nat) : (∀ x ∈ kx k, x < 256) ∧ (kx k).length = k + 3 := by
  refine ⟨?_, by simp [kx]⟩
  intro x hx
  simp only [kx, List.mem_append] at hx
  rcases hx with hx | hx
  · revert x; decide
  · have := List.eq_of_mem_replicate hx; omega
theorem ky_ok (k : Nat) : (∀ x ∈ ky k, x < 256) ∧ (ky k).length = k + 5 := by
  refine ⟨?_, by simp [ky]⟩
  intro x hx
  simp only [ky, List.mem_append] at hx
  rcases hx with hx | hx
  · revert x; decide
  · have := List.eq_of_mem_replicate hx; omega
theorem kxs_ok : ∀ k, ∀ s ∈ kxs k, (∀ x ∈ s, x < 256) ∧ s.length ≤ k + 3
  | 0 => by intro s hs; cases hs
  | k + 1 => by
    intro s hs
    rw [kxs, List.mem_append] at hs
    rcases hs with hs | hs
    · have := kxs_ok k s hs; exact ⟨this.1, by omega⟩
    · simp at hs
      subst hs
      exact ⟨(kx_ok k).1, by have := (kx_ok k).2; omega⟩
theorem crc_kx (k : Nat) : crcR (nt 0) (kx (k + 1)) = byteStep (crcR (nt 0) (kx k)) 120 := by
  unfold kx; rw [List.replicate_succ', ← List.append_assoc, crcR_snoc]
theorem crc_ky (k : Nat) : crcR (nt 0) (ky (k + 1)) = byteStep (crcR (nt 0) (ky k)) 121 := by
  unfold ky; rw [List.replicate_succ', ← List.append_assoc, crcR_snoc]
/-- How many of the first j texts may be among those of a filter. -/
def hits (F : List Nat) : Nat → Nat
  | 0 => 0
  | j + 1 => hits F j + (if mayB F (ky j) then 1 else 0)

def nx (a b : Nat) : Nat := (a + b) % 4294967296
def may6 (M n8 a0 b : Nat) : Bool :=
  M.testBit (a0 * n8 / 4294967296) && force (nx a0 b) fun a1 => M.testBit (a1 * n8 / 4294967296) && force (nx a1 b) fun a2 => M.testBit (a2 * n8 / 4294967296) && force (nx a2 b) fun a3 => M.testBit (a3 * n8 / 4294967296) && force (nx a3 b) fun a4 => M.testBit (a4 * n8 / 4294967296) && force (nx a4 b) fun a5 => M.testBit (a5 * n8 / 4294967296)
def set6 (M n8 a0 b : Nat) : Nat :=
  force (nx a0 b) fun a1 => force (nx a1 b) fun a2 => force (nx a2 b) fun a3 => force (nx a3 b) fun a4 => force (nx a4 b) fun a5 =>
    M ||| 2 ^ (a0 * n8 / 4294967296) ||| 2 ^ (a1 * n8 / 4294967296) ||| 2 ^ (a2 * n8 / 4294967296) ||| 2 ^ (a3 * n8 / 4294967296) ||| 2 ^ (a4 * n8 / 4294967296) ||| 2 ^ (a5 * n8 / 4294967296)
def bm (n8 : Nat) : Nat → Nat → Nat → Nat
  | 0, _, M => M
  | f + 1, R, M => force (nt R) fun a => force (mk a ||| 1) fun b => force (set6 M n8 a b) fun M2 => force (byteStep R 120) fun R2 => bm n8 f R2 M2
def hm (M n8 : Nat) : Nat → Nat → Nat → Nat
  | 0, _, acc => acc
  | f + 1, R, acc => force (nt R) fun a => force (mk a ||| 1) fun b => force (bif may6 M n8 a b then acc + 1 else acc) fun acc2 => force (byteStep R 121) fun R2 => hm M n8 f R2 acc2
/-- The bits of a row as one number. -/
def Same (F : List Nat) (M : Nat) : Prop := ∀ j, hasB F j = M.testBit j
theorem may6_eq (F : List Nat) (M : Nat) (h : Same F M) (s : List Nat) (h0 : 0 < F.length) : may6 M (8 * F.length) (ksum s) (kstp s) = mayB F s := by
  unfold mayB may6
  simp only [force_eq]
  rw [decide_eq_true h0, Bool.true_and]
  simp only [allN, Bool.true_and, h _]
  simp only [kp, ka, nx, Bool.and_assoc]
theorem set6_same (n : Nat) (F : List Nat) (M : Nat) (h : Same F M) (s : List Nat) (hs : ∀ c ∈ s, c < 256) (hn : F.length = n) (h0 : 0 < n) : Same (addK n F s) (set6 M (8 * n) (ksum s) (kstp s)) := by
  intro j
  unfold addK set6
  simp only [force_eq]
  rw [hasB_setN F _ (fun k => by rw [hn]; exact kp_byte n s hs h0 k), h j]
  simp only [Nat.testBit_or, Nat.testBit_two_pow, anyN, Bool.false_or, kp, ka, nx, Bool.or_assoc]
  rfl
theorem bm_same (n : Nat) (h0 : 0 < n) : ∀ f k M, Same (mkF n (kxs k)) M → Same (mkF n (kxs (k + f))) (bm (8 * n) f (crcR (nt 0) (kx k)) M)
  | 0, k, M, h => h
  | f + 1, k, M, h => by
    rw [bm]
    simp only [force_eq]
    rw [← crc_kx]
    have := bm_same n h0 f (k + 1) (set6 M (8 * n) (ksum (kx k)) (kstp (kx k))) (by
      rw [kxs, mkF_snoc]
      exact set6_same n _ M h _ (kx_ok k).1 (mkF_len _ _) h0)
    rw [show k + (f + 1) = k + 1 + f by omega]
    exact this
theorem hm_hits (F : List Nat) (M : Nat) (h : Same F M) (h0 : 0 < F.length) : ∀ f k, hm M (8 * F.length) f (crcR (nt 0) (ky k)) (hits F k) = hits F (k + f)
  | 0, k => rfl
  | f + 1, k => by
    rw [hm]
    simp only [force_eq]
    rw [← crc_ky]
    have e : (bif may6 M (8 * F.length) (nt (crcR (nt 0) (ky k))) (mk (nt (crcR (nt 0) (ky k))) ||| 1) then hits F k + 1 else hits F k) = hits F (k + 1) := by
      have := may6_eq F M h (ky k) h0
      rw [show may6 M (8 * F.length) (nt (crcR (nt 0) (ky k))) (mk (nt (crcR (nt 0) (ky k))) ||| 1) = mayB F (ky k) from this, hits]
      cases mayB F (ky k) <;> rfl
    rw [e, hm_hits F M h h0 f (k + 1), show k + 1 + f = k + (f + 1) by omega]
theorem same_zero (n : Nat) : Same (mkF n (kxs 0)) 0 := by
  intro j
  show hasB (List.replicate n 0) j = _
  rw [hasB_zero]; simp
def rx : Nat := crcR (nt 0) (kx 0)
def ry : Nat := crcR (nt 0) (ky 0)
set_option maxRecDepth 100000 in
theorem seldom_all : ∀ m, m < 32 → force rx (fun x => force ry fun y => force (8 * fsz (20 + m)) fun n8 => force (bm n8 (20 + m) x 0) fun M => decide (hm M n8 200 y 0 < 60)) = true := by decide +kernel
theorem seldom (m : Nat) (hm' : m < 32) : hits (mkF (fsz (20 + m)) (kxs (20 + m))) 200 < 60 := by
  have h := seldom_all m hm'
  simp only [force_eq, decide_eq_true_eq] at h
  have hs := bm_same (fsz (20 + m)) (fsz_pos _) (20 + m) 0 0 (same_zero _)
  rw [Nat.zero_add] at hs
  have hl : (mkF (fsz (20 + m)) (kxs (20 + m))).length = fsz (20 + m) := mkF_len _ _
  have := hm_hits _ _ hs (by rw [hl]; exact fsz_pos _) 200 0
  rw [hl, Nat.zero_add] at this
  rw [← this]
  exact h
end Go.Proofs.YtajgmadohhagkaaDoor
