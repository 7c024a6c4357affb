/- Walks: getText. -/
import Derived.Test.YtahbhaphodgomacK6
import Derived.IntWalk
namespace Go.Proofs.Ytahbhaphodgomac
set_option linter.unusedSimpArgs false
set_option linter.unusedVariables false
open Go.RowKit

/-- How many bytes of a length go on. -/
def laG : Nat → List Nat → Nat
  | 0, _ => 0
  | _ + 1, [] => 0
  | f + 1, c :: l => if 128 ≤ c then laG f l + 1 else 0
def la (bs : List Nat) : Nat := laG 9 bs
theorem laG_spec : ∀ (f : Nat) (bs : List Nat), laG f bs ≤ bs.length ∧ laG f bs ≤ f ∧ (∀ j, j < laG f bs → 128 ≤ bs.getD j 0) ∧ (laG f bs = bs.length ∨ laG f bs = f ∨ bs.getD (laG f bs) 0 < 128)
  | 0, bs => ⟨Nat.zero_le _, Nat.le_refl _, fun j h => absurd h (Nat.not_lt_zero _), .inr (.inl rfl)⟩
  | f + 1, [] => ⟨Nat.le_refl _, Nat.zero_le _, fun j h => absurd h (Nat.not_lt_zero _), .inl rfl⟩
  | f + 1, c :: l => by
    have ih := laG_spec f l
    by_cases h : 128 ≤ c
    · have e : laG (f + 1) (c :: l) = laG f l + 1 := by simp [laG, h]
      rw [e]
      refine ⟨by simp; omega, by omega, fun j hj => ?_, ?_⟩
      · cases j with
        | zero => simpa using h
        | succ j => simpa using ih.2.2.1 j (by omega)
      · rcases ih.2.2.2 with h1 | h1 | h1
        · exact .inl (by simp [h1])
        · exact .inr (.inl (by omega))
        · exact .inr (.inr (by simpa using h1))
    · have e : laG (f + 1) (c :: l) = 0 := by simp [laG, h]
      rw [e]
      exact ⟨Nat.zero_le _, Nat.zero_le _, fun j hj => absurd hj (Nat.not_lt_zero _), .inr (.inr (by simp; omega))⟩
theorem la_spec (bs : List Nat) : M.Lead bs (la bs) :=
  have h := laG_spec 9 bs
  ⟨h.1, h.2.1, h.2.2.1, h.2.2.2⟩
theorem la_of {bs : List Nat} {a : Nat} (h : M.Lead bs a) : la bs = a := (la_spec bs).unique h

def tE (bs : List Nat) : Nat := if M.ge bs (la bs) ≠ 0 then M.ge bs (la bs) else if bs.length - (la bs + 1) < M.gn bs (la bs) then 8 else 0
def tN (bs : List Nat) : Nat := if tE bs = 0 then la bs + 1 + M.gn bs (la bs) else 0
def tS (bs : List Nat) : List Nat := if tE bs = 0 then (bs.drop (la bs + 1)).take (M.gn bs (la bs)) else []

theorem tE_ge (bs : List Nat) (h : M.ge bs (la bs) ≠ 0) : tE bs = M.ge bs (la bs) ∧ tN bs = 0 ∧ tS bs = [] := by
  have e : tE bs = M.ge bs (la bs) := by unfold tE; rw [if_pos h]
  exact ⟨e, by unfold tN; rw [if_neg (by rw [e]; exact h)], by unfold tS; rw [if_neg (by rw [e]; exact h)]⟩
theorem tE_short (bs : List Nat) (h : M.ge bs (la bs) = 0) (hs : bs.length - (la bs + 1) < M.gn bs (la bs)) : tE bs = 8 ∧ tN bs = 0 ∧ tS bs = [] := by
  have e : tE bs = 8 := by unfold tE; rw [if_neg (by simp [h]), if_pos hs]
  exact ⟨e, by unfold tN; rw [if_neg (by rw [e]; decide)], by unfold tS; rw [if_neg (by rw [e]; decide)]⟩
theorem tE_ok (bs : List Nat) (h : M.ge bs (la bs) = 0) (hs : ¬ bs.length - (la bs + 1) < M.gn bs (la bs)) : tE bs = 0 ∧ tN bs = la bs + 1 + M.gn bs (la bs) ∧ tS bs = (bs.drop (la bs + 1)).take (M.gn bs (la bs)) := by
  have e : tE bs = 0 := by unfold tE; rw [if_neg (by simp [h]), if_neg hs]
  exact ⟨e, by unfold tN; rw [if_pos e], by unfold tS; rw [if_pos e]⟩
theorem ge_vals (bs : List Nat) (a : Nat) : M.ge bs a = 8 ∨ M.ge bs a = 2 ∨ M.ge bs a = 0 := by
  unfold M.ge
  split
  · exact .inl rfl
  · split
    · exact .inr (.inl rfl)
    · exact .inr (.inr rfl)
theorem tE_vals (bs : List Nat) : tE bs = 8 ∨ tE bs = 2 ∨ tE bs = 0 := by
  unfold tE
  split
  · exact ge_vals _ _
  · split
    · exact .inl rfl
    · exact .inr (.inr rfl)
theorem ge_lt (bs : List Nat) (h : M.ge bs (la bs) = 0) : la bs < bs.length := by
  have hle := (la_spec bs).le
  rcases Nat.lt_or_ge (la bs) bs.length with h1 | h1
  · exact h1
  · unfold M.ge at h
    rw [if_pos (by omega)] at h
    cases h
theorem tN_le (bs : List Nat) : tN bs ≤ bs.length := by
  by_cases h : M.ge bs (la bs) = 0
  · by_cases hs : bs.length - (la bs + 1) < M.gn bs (la bs)
    · rw [(tE_short bs h hs).2.1]; omega
    · have := ge_lt bs h
      rw [(tE_ok bs h hs).2.1]; omega
  · rw [(tE_ge bs h).2.1]; omega
theorem tS_lt (bs : List Nat) (hb : ∀ c ∈ bs, c < 256) : ∀ c ∈ tS bs, c < 256 := by
  unfold tS
  split
  · intro c hc; exact hb c (List.mem_of_mem_drop (List.mem_of_mem_take hc))
  · simp
theorem tS_len (bs : List Nat) : (tS bs).length ≤ bs.length := by
  unfold tS
  split
  · rw [List.length_take, List.length_drop]; omega
  · simp

set_option maxHeartbeats 1000000 in
set_option maxRecDepth 100000 in
theorem getText_any (A : Option Addr) (n c : Nat) (bs : List Nat) (w : World) (B : Nat) (hr : Rd w B A n (bys bs)) (hb : ∀ c ∈ bs, c < 256) (hn : n ≤ 10000000) (hc : n ≤ c) (hcm : c ≤ maxLen) :
    Calls Try.prog 25 #[.slice A n c] w fun e w' => e = .returned (.tuple #[.string (strB (tS bs)), .int .i64 (tN bs : Int), .int .i64 (tE bs : Int)]) ∧ w = w' := by
  have hbl : bs.length = n := by have := hr.1; rwa [bys_len] at this
  have HG := Lib.hid (get_any A n c bs w B hr hb (by omega) (la bs) (la_spec bs))
  have hg9 := (la_spec bs).nine
  unfold maxLen at hcm
  by_cases h : M.ge bs (la bs) = 0
  · have hlt := ge_lt bs h
    have hpg := M.put_get bs (la bs) hb (la_spec bs) h
    have hgn := hpg.1
    have hgk : M.gk bs (la bs) = la bs + 1 := by unfold M.gk; rw [if_pos h]
    rw [h, hgk] at HG
    by_cases hs : bs.length - (la bs + 1) < M.gn bs (la bs)
    · obtain ⟨e1, e2, e3⟩ := tE_short bs h hs
      rw [e1, e2, e3]
      clear e1 e2 e3 hpg hgk h
      rw [hbl] at hs hlt
      generalize M.gn bs (la bs) = G at *
      generalize la bs = a at *
      have t1 : ((n : Int) - (a + 1 : Nat)) < (G : Int) := by omega
      have t2 : (a : Int) + 1 ≤ (n : Int) := by omega
      have hG : (G : Int) ≤ 18446744073709551615 := by omega
      clear hgn
      go_enter Try.func25, Try.ntmps25
      go_wp2_with fail
      refine HG.out.mono ?_
      rintro e w1 ⟨rfl, rfl⟩
      go_wp2
      go_ret3
      exact ⟨rfl, rfl⟩
    · obtain ⟨e1, e2, e3⟩ := tE_ok bs h hs
      rw [e1, e2, e3]
      clear e1 e2 e3 hpg hgk h
      rw [hbl] at hs hlt
      generalize hG : M.gn bs (la bs) = G at *
      generalize hA : la bs = a at *
      clear hG hA
      have t1 : ¬ ((n : Int) - (a + 1 : Nat)) < (G : Int) := by omega
      have t2 : (a : Int) + 1 ≤ (n : Int) := by omega
      have t3 : (G : Int) ≤ (n : Int) := by omega
      have hrd := hr.mid (a + 1) (a + 1 + G) c (by omega) (by omega) hc
      obtain ⟨i0, hi, hz0, hz1, hz2⟩ := info_parts Try.info5
      have hsl := run_slice_lh (P := Try.prog) w 33 5 i0 Try.underlying33 hi hz1 A n c (a + 1) (a + 1 + G) (by omega) (by omega) .i64 .i64 ((a : Int) + 1) ((a : Int) + 1 + (G : Int)) (by omega) (by omega)
      rw [show a + 1 + G - (a + 1) = G by omega] at hrd hsl
      generalize (if c = a + 1 then A else A.map (·.add (a + 1))) = A' at *
      rw [← bys_drop, ← bys_take] at hrd
      have hcv := run_conv (P := Try.prog) (c - (a + 1)) hrd 33 9 5 Try.underlying33 Try.underlying5 Try.underlying9
      generalize (bs.drop (a + 1)).take G = T at *
      clear hgn hrd hs
      go_enter Try.func25, Try.ntmps25
      go_wp2_with fail
      refine HG.out.mono ?_
      rintro e w1 ⟨rfl, rfl⟩
      go_wp2
      go_ret3
      exact ⟨by simp, rfl⟩
  · obtain ⟨e1, e2, e3⟩ := tE_ge bs h
    rw [e1, e2, e3]
    have hk : M.gk bs (la bs) = 0 := by unfold M.gk; rw [if_neg h]
    have hnn : M.gn bs (la bs) = 0 := by unfold M.gn; rw [if_neg h]
    rw [hk, hnn] at HG
    clear e1 e2 e3 hk hnn
    have hge := ge_vals bs (la bs)
    generalize M.ge bs (la bs) = E at *
    have hne : ((E : Int) != 0) = true := by simp; omega
    go_enter Try.func25, Try.ntmps25
    go_wp2_with fail
    refine HG.out.mono ?_
    rintro e w1 ⟨rfl, rfl⟩
    go_wp2
    go_ret3
    exact ⟨rfl, rfl⟩
end Go.Proofs.Ytahbhaphodgomac
