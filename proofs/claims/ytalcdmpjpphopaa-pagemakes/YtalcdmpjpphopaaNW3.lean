/- Walks: num.Get. -/
import Derived.Test.YtalcdmpjpphopaaNW2
namespace Go.Proofs.Ytalcdmpjpphopaa
set_option linter.unusedSimpArgs false
set_option linter.unusedVariables false
open Go.RowKit

theorem or_step (gv cb j : Nat) (h : gv < 128 ^ j) (hj : j ≤ 8 ∨ (j = 9 ∧ cb ≤ 1)) :
    bits BinOp.or IntKind.u64 (gv : Int) (IntKind.u64.wrap ((cb : Int) % 128 * 2 ^ (7 * j))) = ((gv + cb % 128 * 128 ^ j : Nat) : Int) := by
  have hS : cb % 128 * 128 ^ j < 18446744073709551616 := by
    rcases hj with hj | ⟨rfl, hc⟩
    · have h1 : cb % 128 * 128 ^ j ≤ 127 * 128 ^ j := Nat.mul_le_mul_right _ (by omega)
      have h2 : 128 ^ j ≤ 128 ^ 8 := Nat.pow_le_pow_right (by decide) hj
      have e : (128 : Nat) ^ 8 = 72057594037927936 := by decide
      omega
    · have e : (128 : Nat) ^ 9 = 9223372036854775808 := by decide
      have h1 : cb % 128 * 128 ^ 9 ≤ 1 * 128 ^ 9 := Nat.mul_le_mul_right _ (by omega)
      omega
  have hg : gv < 18446744073709551616 := by
    have h2 : 128 ^ j ≤ 128 ^ 9 := Nat.pow_le_pow_right (by decide) (by omega)
    have e : (128 : Nat) ^ 9 = 9223372036854775808 := by decide
    omega
  have e1 : ((cb : Int) % 128 * 2 ^ (7 * j)) = ((cb % 128 * 128 ^ j : Nat) : Int) := by
    rw [M.pow128]; simp
  rw [e1, IntKind.wrap_u64, Int.emod_eq_of_lt (by omega) (by omega), u64_or_nat _ _ hg hS]
  congr 1
  rw [Nat.or_comm, nat_join (7 * j) _ _ (by rw [M.pow128]; exact Nat.mul_mod_left _ _) (by rw [← M.pow128]; exact h)]
  omega

theorem or_nine (gv cb j : Nat) (hj : j = 9) (hc : cb ≤ 1) :
    bits BinOp.or IntKind.u64 (gv : Int) ((cb : Int) % 128 * 9223372036854775808) = bits BinOp.or IntKind.u64 (gv : Int) (IntKind.u64.wrap ((cb : Int) % 128 * 2 ^ (7 * j))) := by
  subst hj
  rw [IntKind.wrap_u64]
  have e : (2 : Int) ^ (7 * 9) = 9223372036854775808 := by decide
  have e2 : (cb : Int) % 128 = cb := by omega
  rw [e2, e, Int.emod_eq_of_lt (by omega) (by omega)]

def I3 (x y z : Int) : Ending := .returned (.tuple #[.int .u64 x, .int .i64 y, .int .i64 z])
theorem I3_eq {x y z x' y' z' : Int} (h1 : x = x') (h2 : y = y') (h3 : z = z') : Ending.returned (.tuple #[.int .u64 x, .int .i64 y, .int .i64 z]) = .returned (.tuple #[.int .u64 x', .int .i64 y', .int .i64 z']) := by
  rw [h1, h2, h3]

set_option maxHeartbeats 1000000 in
set_option maxRecDepth 100000 in
theorem get_any (A : Option Addr) (n c : Nat) (bs : List Nat) (w : World) (B : Nat) (hr : Rd w B A n (bys bs)) (hb : ∀ c ∈ bs, c < 256) (hn : n ≤ 1000000000) (a : Nat) (hL : M.Lead bs a) :
    Calls Try.prog 48 #[.slice A n c] w fun e w' => e = .returned (.tuple #[.int .u64 (M.gn bs a : Int), .int .i64 (M.gk bs a : Int), .int .i64 (M.ge bs a : Int)]) ∧ w = w' := by
  have hbl : bs.length = n := by have := hr.1; rwa [bys_len] at this
  have Hbl := Lib.hid hbl
  have hle := hL.le
  have h9 := hL.nine
  rw [hbl] at hle
  clear hbl
  go_enter Try.func48, Try.ntmps48
  go_wp2
  all_goals
    go_loop [5, 11] (fun y i => ∃ j : Nat, j ≤ a ∧ i = .int .i64 j ∧ y = .int .u64 (M.gval bs j : Int)) (fun _ i => 10 - (intOf i).toNat)
    case atStart => exact ⟨0, Nat.zero_le _, rfl, rfl⟩
    case round =>
      obtain ⟨j, hj, rfl, rfl⟩ := hrel
      have hgl := M.gval_lt bs j
      by_cases hja : j < a
      · obtain ⟨g, off, u, rfl, hgB, hu, hcell⟩ := hr.at_ (k := j) (by omega)
        rw [bys_get bs j (by rw [Hbl.out]; omega)] at hu
        injection hu with hu
        subst hu
        have hc1 := hL.high j hja
        have hjn : (j : Int) < (n : Int) := by omega
        have hj9 : ((j : Int) == 9) = false := beq_eq_false_iff_ne.2 (by omega)
        generalize hcb : bs.getD j 0 = cb at *
        have Hcb := Lib.hid hcb
        clear hcb
        generalize hgv : M.gval bs j = gv at *
        have Hgv := Lib.hid hgv
        clear hgv
        go_wp2
        go_round
        case rel =>
          refine ⟨j + 1, by omega, by go_num, ?_⟩
          rw [or_step gv cb j hgl (.inl (by omega)), M.gval, Hgv.out, Hcb.out]
        case measure => simp [intOf]; omega
      · have hje : j = a := by omega
        subst hje
        by_cases hjn : j = n
        · have e1 : M.ge bs j = 8 := by unfold M.ge; rw [if_pos (by rw [Hbl.out]; exact hjn)]
          have e2 : M.gk bs j = 0 := by unfold M.gk; rw [if_neg (by rw [e1]; decide)]
          have e3 : M.gn bs j = 0 := by unfold M.gn; rw [if_neg (by rw [e1]; decide)]
          have E1 := Lib.hid e1
          have E2 := Lib.hid e2
          have E3 := Lib.hid e3
          clear e1 e2 e3
          have hjn' : ¬ (j : Int) < (n : Int) := by omega
          have Hjn := Lib.hid hjn
          clear hjn
          first
            | (exfalso; have := Hjn.out; omega)
            | (go_wp2
               go_ret3
               exact ⟨I3_eq (by rw [E3.out]; rfl) (by rw [E2.out]; rfl) (by rw [E1.out]; rfl), rfl⟩)
        · obtain ⟨g, off, u, rfl, hgB, hu, hcell⟩ := hr.at_ (k := j) (by omega)
          rw [bys_get bs j (by rw [Hbl.out]; omega)] at hu
          injection hu with hu
          subst hu
          have hjn' : (j : Int) < (n : Int) := by omega
          have hst : j = 9 ∨ bs.getD j 0 < 128 := by
            rcases hL.stop with h | h | h
            · rw [Hbl.out] at h; exact absurd h hjn
            · exact .inl h
            · exact .inr h
          have hge : M.ge bs j = if (j = 9 ∧ 1 < bs.getD 9 0) ∨ (bs.getD j 0 = 0 ∧ 0 < j) then 2 else 0 := by
            unfold M.ge; rw [if_neg (by rw [Hbl.out]; exact hjn)]
          have h99 : j = 9 → bs.getD 9 0 = bs.getD j 0 := fun h => by rw [h]
          have hgv1 : M.gval bs (j + 1) = M.gval bs j + bs.getD j 0 % 128 * 128 ^ j := rfl
          generalize hcb : bs.getD j 0 = cb at *
          generalize hgv : M.gval bs j = gv at *
          clear hcb hgv hb hL
          by_cases hbad : (j = 9 ∧ 1 < cb) ∨ (cb = 0 ∧ 0 < j)
          · have e1 : M.ge bs j = 2 := by
              rw [hge, if_pos]
              rcases hbad with ⟨h1, h2⟩ | h
              · exact .inl ⟨h1, by rw [h99 h1]; exact h2⟩
              · exact .inr h
            have e2 : M.gk bs j = 0 := by unfold M.gk; rw [if_neg (by rw [e1]; decide)]
            have e3 : M.gn bs j = 0 := by unfold M.gn; rw [if_neg (by rw [e1]; decide)]
            have E1 := Lib.hid e1
            have E2 := Lib.hid e2
            have E3 := Lib.hid e3
            clear e1 e2 e3 hge hgv1 h99
            by_cases h9c : j = 9 ∧ 1 < cb
            · obtain ⟨h1, h2⟩ := h9c
              have hj9 : ((j : Int) == 9) = true := beq_iff_eq.2 (by omega)
              have hc2 : (1 : Int) < (cb : Int) := by omega
              have H1 := Lib.hid h1
              clear h1 hbad hst
              go_wp2
              go_ret3
              exact ⟨I3_eq (by rw [E3.out]; rfl) (by rw [E2.out]; rfl) (by rw [E1.out]; rfl), rfl⟩
            · have h0 : cb = 0 ∧ 0 < j := by
                rcases hbad with h | h
                · exact absurd h h9c
                · exact h
              obtain ⟨h1, h2⟩ := h0
              subst h1
              clear hbad hst h9c
              have hj0 : (0 : Int) < (j : Int) := by omega
              go_wp2
              all_goals go_ret3
              all_goals exact ⟨I3_eq (by rw [E3.out]; rfl) (by rw [E2.out]; rfl) (by rw [E1.out]; rfl), rfl⟩
          · have e1 : M.ge bs j = 0 := by
              rw [hge, if_neg]
              rintro (⟨h1, h2⟩ | h)
              · exact hbad (.inl ⟨h1, by rw [← h99 h1]; exact h2⟩)
              · exact hbad (.inr h)
            have e2 : M.gk bs j = j + 1 := by unfold M.gk; rw [if_pos e1]
            have e3 : M.gn bs j = gv + cb % 128 * 128 ^ j := by unfold M.gn; rw [if_pos e1, hgv1]
            have E1 := Lib.hid e1
            have E2 := Lib.hid e2
            have E3 := Lib.hid e3
            clear e1 e2 e3 hge hgv1 h99
            have hos := or_step gv cb j hgl (by omega)
            have HOS := Lib.hid hos
            clear hos
            have hc128 : (cb : Int) < 128 := by omega
            have hp1 : ¬ (j = 9 ∧ 1 < cb) := fun h => hbad (.inl h)
            have hp2 : ¬ (cb = 0 ∧ 0 < j) := fun h => hbad (.inr h)
            clear hbad hst
            have hcI : (cb : Int) ≤ 1 ∨ j ≤ 8 := by omega
            go_wp2
            all_goals go_ret3
            all_goals refine ⟨I3_eq ?_ ?_ ?_, rfl⟩
            all_goals first
              | (rw [E1.out]; rfl)
              | (rw [E2.out]; simp; done)
              | (rw [E2.out]; simp; omega)
              | (rw [E3.out]; exact HOS.out)
              | (rw [E3.out, ← HOS.out]; exact or_nine gv cb j (by omega) (by omega))
end Go.Proofs.Ytalcdmpjpphopaa
