/- The reference's Little; a version as bytes. -/
import Derived.Test.YtkokbpifjpmhlaaDoorHQ
namespace Go.Proofs.YtkokbpifjpmhlaaDoor
set_option linter.unusedSimpArgs false
set_option linter.unusedVariables false
open Go.RowKit

theorem leB_mod4 (a b : Nat) (h : a % 4294967296 = b % 4294967296) : M.leB a 4 = M.leB b 4 := by
  simp only [M.leB, show List.range 4 = [0, 1, 2, 3] from rfl, List.map_cons, List.map_nil]
  have e0 : a / 256 ^ 0 % 256 = b / 256 ^ 0 % 256 := by simp; omega
  have e1 : a / 256 ^ 1 % 256 = b / 256 ^ 1 % 256 := by simp; omega
  have e2 : a / 256 ^ 2 % 256 = b / 256 ^ 2 % 256 := by simp only [show (256 : Nat) ^ 2 = 65536 from rfl]; omega
  have e3 : a / 256 ^ 3 % 256 = b / 256 ^ 3 % 256 := by simp only [show (256 : Nat) ^ 3 = 16777216 from rfl]; omega
  rw [e0, e1, e2, e3]
/-- A version, as a number without sign of 32 bits. -/
def uw (v : Int) : Nat := (v % 4294967296).toNat
theorem uw_cast (v : Int) : v % 4294967296 = (uw v : Int) := by unfold uw; omega
theorem uw_lt (v : Int) : uw v < 4294967296 := by unfold uw; omega
theorem leB_uv (v : Int) : M.leB (uv v) 4 = M.leB (uw v) 4 := leB_mod4 _ _ (by unfold uv uw; omega)
theorem lv_le4 (n : Nat) : M.lv (M.leB n 4) 4 = n % 4294967296 := by
  have := M.lv_leB n 4 []
  simpa using this
theorem ver_back {v : Int} (h0 : -2147483648 ≤ v) (h1 : v ≤ 2147483647) : IntKind.i32.wrap (M.lv (M.leB (uv v) 4) 4 : Int) = v := by
  rw [lv_le4, IntKind.wrap_i32]
  unfold uv
  omega
theorem u32_back {t : Nat} (h : t < 4294967296) : M.lv (M.leB t 4) 4 = t := by rw [lv_le4]; omega

set_option maxHeartbeats 1000000 in
set_option maxRecDepth 100000 in
theorem reflittle_any (X : Nat) (hX : X < 18446744073709551616) (K : Nat) (hK : K ≤ 8) (w : World) :
    Calls Tryd.prog 7 #[.int .u64 (X : Int), .int .i64 (K : Int)] w fun e w' => ∃ v', e = .returned v' ∧ Buf w' w.heap.size v' K (bys (M.leB X K)) ∧ Below w.heap.size w w' := by
  obtain ⟨i0, hi, hz0, hz1, hz2⟩ := info_parts Tryd.info5
  have HXX := Lib.hid hX
  have bf : Buf (w.alloc (.cells #[] 5)) w.heap.size (.slice (some ⟨w.heap.size, 0, none⟩) 0 0) 0 [] := by
    have := World.ownsRow_lit (base := w.heap.size) (e := 5) (size := 1) w #[] 0 (by simp) (by unfold maxLen; omega) rfl
    exact Buf.of_own (by simpa using this)
  obtain ⟨W1, e1⟩ : ∃ W1, W1 = w.alloc (.cells #[] 5) := ⟨_, rfl⟩
  rw [← e1] at bf
  have hB1 : Below w.heap.size w W1 := by rw [e1]; exact (Below.refl _ _).alloc (Nat.le_refl _) _
  have hS1 := hB1.size
  have HE := Lib.hid e1
  have HB1 := Lib.hid hB1
  clear e1 hB1 hX
  go_enter Tryd.func7, Tryd.ntmps7
  go_upto_region 3 with fail
  rw [← HE.out]
  go_loopg [0, 5, 6] K (fun k x d c wr => ∃ j, k = K - j ∧ j ≤ K ∧ c = .int .i64 (j : Int) ∧ x = .int .u64 ((X / 256 ^ j : Nat) : Int) ∧ Laid W1 w.heap.size (.slice (some ⟨w.heap.size, 0, none⟩) 0 0) wr d j (bys (M.leB X j)))
  case atStart => exact ⟨0, rfl, Nat.zero_le _, rfl, by simp, by simpa [M.leB, bys] using Laid.refl bf⟩
  case round =>
    obtain ⟨j, hk, hj, rfl, rfl, hlaid⟩ := hrel
    have hw1 : w.heap.size ≤ wr.heap.size := Nat.le_trans hS1 hlaid.grown.size
    have hH := Lib.hid (M.leB_succ X j)
    have hKK := Lib.hid hk
    clear hk
    have hY : X / 256 ^ j < 18446744073709551616 := Nat.lt_of_le_of_lt (Nat.div_le_self _ _) HXX.out
    have HDD := Lib.hid (show X / 256 ^ (j + 1) = X / 256 ^ j / 256 by rw [Nat.pow_succ, Nat.div_div_eq_div_mul])
    obtain ⟨Y, eY⟩ : ∃ Y, X / 256 ^ j = Y := ⟨_, rfl⟩
    rw [eY] at hY
    have HY := Lib.hid eY
    by_cases hlt : j < K
    · have hlt' : (j : Int) < (K : Int) := by omega
      have hj8 : (j : Int) < 8 := by omega
      rw [eY]
      clear eY
      go_wp2_with (at_builtin; refine wpList_append_one _ rfl (.tmp 13) (.tmp 17) 27 rfl w.heap.size 5 i0 (.int .u8 0) 1 Tryd.underlying27 hi hz0 hz1 hz2 rfl rfl hlaid.buf rfl rfl ?b1 ?b2 hw1 ?next)
      case b1 => unfold maxLen; omega
      case b2 => omega
      case next =>
        intro v' w' r1 r2 r3
        have hl2 := hlaid.trans ⟨r1, r2, r3⟩
        clear r1 r2 r3
        go_wp2
        go_roundg (K - (j + 1))
        case measure => have := hKK.out; omega
        case rel =>
          refine ⟨j + 1, rfl, by omega, by go_num, ?_, ?_⟩
          · rw [HDD.out, HY.out]; go_num
          · rw [hH.out, bys_app, HY.out]
            exact hl2
    · have hje : j = K := by omega
      subst hje
      clear eY
      have hb := HB1.out.trans ((hlaid.below bf hS1).mono (Nat.le_refl _))
      go_wp2
      go_ret
      exact ⟨_, rfl, hlaid.buf, hb⟩
end Go.Proofs.YtkokbpifjpmhlaaDoor
