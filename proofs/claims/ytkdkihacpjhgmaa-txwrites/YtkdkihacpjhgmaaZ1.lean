/- The reference: Little. -/
import Derived.Test.YtkdkihacpjhgmaaXH
import Derived.Deep.LoopGhost
namespace Go.Proofs.Ytkdkihacpjhgmaa
set_option linter.unusedSimpArgs false
set_option linter.unusedVariables false
open Go.RowKit

set_option maxHeartbeats 1000000 in
set_option maxRecDepth 100000 in
theorem reflittle_any (X : Nat) (hX : X < 18446744073709551616) (K : Nat) (hK : K ≤ 8) (w : World) :
    Calls Try.prog 36 #[.int .u64 (X : Int), .int .i64 (K : Int)] w fun e w' => ∃ v', e = .returned v' ∧ Buf w' w.heap.size v' K (bys (M.leB X K)) ∧ Below w.heap.size w w' := by
  obtain ⟨i0, hi, hz0, hz1, hz2⟩ := info_parts Try.info5
  have HXX := Lib.hid hX
  have bf : Buf (w.alloc (.cells #[] 5)) w.heap.size (.slice (some ⟨w.heap.size, 0, none⟩) 0 0) 0 [] := by
    have := World.ownsRow_lit (base := w.heap.size) (e := 5) (size := 1) w #[] 0 (by simp) (by unfold maxLen; omega) rfl
    exact Buf.of_own (by simpa using this)
  obtain ⟨W1, e1⟩ : ∃ W1, W1 = w.alloc (.cells #[] 5) := ⟨_, rfl⟩
  rw [← e1] at bf
  have hB1 : Below w.heap.size w W1 := by rw [e1]; exact (Below.refl _ _).alloc (Nat.le_refl _) _
  have hS1 := hB1.size
  have HE := Lib.hid e1
  have HB1 := Lib.hid hB1
  clear e1 hB1 hX
  go_enter Try.func36, Try.ntmps36
  go_upto_region 3 with fail
  rw [← HE.out]
  go_loopg [0, 5, 6] K (fun k x d c wr => ∃ j, k = K - j ∧ j ≤ K ∧ c = .int .i64 (j : Int) ∧ x = .int .u64 ((X / 256 ^ j : Nat) : Int) ∧ Laid W1 w.heap.size (.slice (some ⟨w.heap.size, 0, none⟩) 0 0) wr d j (bys (M.leB X j)))
  case atStart => exact ⟨0, rfl, Nat.zero_le _, rfl, by simp, by simpa [M.leB, bys] using Laid.refl bf⟩
  case round =>
    obtain ⟨j, hk, hj, rfl, rfl, hlaid⟩ := hrel
    have hw1 : w.heap.size ≤ wr.heap.size := Nat.le_trans hS1 hlaid.grown.size
    have hH := Lib.hid (M.leB_succ X j)
    have hKK := Lib.hid hk
    clear hk
    have hY : X / 256 ^ j < 18446744073709551616 := Nat.lt_of_le_of_lt (Nat.div_le_self _ _) HXX.out
    have HDD := Lib.hid (show X / 256 ^ (j + 1) = X / 256 ^ j / 256 by rw [Nat.pow_succ, Nat.div_div_eq_div_mul])
    obtain ⟨Y, eY⟩ : ∃ Y, X / 256 ^ j = Y := ⟨_, rfl⟩
    rw [eY] at hY
    have HY := Lib.hid eY
    by_cases hlt : j < K
    · have hlt' : (j : Int) < (K : Int) := by omega
      have hj8 : (j : Int) < 8 := by omega
      rw [eY]
      clear eY
      go_wp2_with (at_builtin; refine wpList_append_one _ rfl (.tmp 13) (.tmp 17) 27 rfl w.heap.size 5 i0 (.int .u8 0) 1 Try.underlying27 hi hz0 hz1 hz2 rfl rfl hlaid.buf rfl rfl ?b1 ?b2 hw1 ?next)
      case b1 => unfold maxLen; omega
      case b2 => omega
      case next =>
        intro v' w' r1 r2 r3
        have hl2 := hlaid.trans ⟨r1, r2, r3⟩
        clear r1 r2 r3
        go_wp2
        go_roundg (K - (j + 1))
        case measure => have := hKK.out; omega
        case rel =>
          refine ⟨j + 1, rfl, by omega, by go_num, ?_, ?_⟩
          · rw [HDD.out, HY.out]; go_num
          · rw [hH.out, bys_app, HY.out]
            exact hl2
    · have hje : j = K := by omega
      subst hje
      clear eY
      have hb := HB1.out.trans ((hlaid.below bf hS1).mono (Nat.le_refl _))
      go_wp2
      go_ret
      exact ⟨_, rfl, hlaid.buf, hb⟩
end Go.Proofs.Ytkdkihacpjhgmaa
