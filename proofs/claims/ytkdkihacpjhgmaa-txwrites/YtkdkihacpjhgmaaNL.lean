/- Walks: num.Little, PutLittle (for a seat without the rest of num). -/
import Derived.Test.YtkdkihacpjhgmaaStr
import Derived.Test.YtkdkihacpjhgmaaBuf
import Derived.Test.YtkdkihacpjhgmaaArr
import Derived.Test.YtkdkihacpjhgmaaN0
import Derived.Test.YtkdkihacpjhgmaaMath2
import Derived.WalkLawsBesides
import Derived.Deep.LoopGhost
import Derived.Lib.Hide
namespace Go.Proofs.Ytkdkihacpjhgmaa
set_option linter.unusedSimpArgs false
set_option linter.unusedVariables false
open Go.RowKit

set_option maxHeartbeats 400000 in
theorem bounded_any (x : Int) (w : World) :
    Calls Try.prog 45 #[.int .i64 x] w fun e w' => e = .returned (.int .i64 (min (max x 0) 8)) ∧ w = w' := by
  by_cases h1 : x < 0
  · have e : min (max x 0) 8 = 0 := by omega
    rw [e]
    go_enter Try.func45, Try.ntmps45
    go_wp2
    go_ret
    exact ⟨rfl, rfl⟩
  · by_cases h2 : 8 < x
    · have e : min (max x 0) 8 = 8 := by omega
      rw [e]
      go_enter Try.func45, Try.ntmps45
      go_wp2
      go_ret
      exact ⟨rfl, rfl⟩
    · have e : min (max x 0) 8 = x := by omega
      rw [e]
      clear e
      go_enter Try.func45, Try.ntmps45
      go_wp2
      go_ret
      exact ⟨rfl, rfl⟩

theorem or_le (gv cb j : Nat) (h : gv < 256 ^ j) (hj : j ≤ 7) (hc : cb < 256) :
    bits BinOp.or IntKind.u64 (gv : Int) (IntKind.u64.wrap ((cb : Int) * 2 ^ (8 * j))) = ((gv + cb * 256 ^ j : Nat) : Int) := by
  have h2 : 256 ^ j ≤ 256 ^ 7 := Nat.pow_le_pow_right (by decide) hj
  have e : (256 : Nat) ^ 7 = 72057594037927936 := by decide
  have hS : cb * 256 ^ j < 18446744073709551616 := by
    have h1 : cb * 256 ^ j ≤ 255 * 256 ^ j := Nat.mul_le_mul_right _ (by omega)
    omega
  have e1 : ((cb : Int) * 2 ^ (8 * j)) = ((cb * 256 ^ j : Nat) : Int) := by rw [M.pow256]; simp
  rw [e1, IntKind.wrap_u64, Int.emod_eq_of_lt (by omega) (by omega), u64_or_nat _ _ (by omega) hS]
  congr 1
  rw [Nat.or_comm, nat_join (8 * j) _ _ (by rw [M.pow256]; exact Nat.mul_mod_left _ _) (by rw [← M.pow256]; exact h)]
  omega

set_option maxHeartbeats 400000 in
set_option maxRecDepth 100000 in
theorem little_any (A : Option Addr) (n c : Nat) (bs : List Nat) (w : World) (B : Nat) (hr : Rd w B A n (bys bs)) (hb : ∀ c ∈ bs, c < 256) (hn : n ≤ 1000000000) :
    Calls Try.prog 47 #[.slice A n c] w fun e w' => e = .returned (.int .u64 (M.lv bs (min n 8) : Int)) ∧ w = w' := by
  have hbl : bs.length = n := by have := hr.1; rwa [bys_len] at this
  have Hbl := Lib.hid hbl
  clear hbl
  go_enter Try.func47, Try.ntmps47
  go_wp2
  all_goals
    go_loop [3, 8] (fun y i => ∃ j : Nat, j ≤ min n 8 ∧ i = .int .i64 j ∧ y = .int .u64 (M.lv bs j : Int)) (fun _ i => 8 - (intOf i).toNat)
    case atStart => exact ⟨0, Nat.zero_le _, rfl, rfl⟩
    case round =>
      obtain ⟨j, hj, rfl, rfl⟩ := hrel
      have hgl := M.lv_lt bs hb j
      by_cases hja : j < min n 8
      · obtain ⟨g, off, u, rfl, hgB, hu, hcell⟩ := hr.at_ (k := j) (by omega)
        rw [bys_get bs j (by rw [Hbl.out]; omega)] at hu
        injection hu with hu
        subst hu
        have hc1 := M.getD_lt hb j
        have hjn : (j : Int) < (n : Int) := by omega
        have hj8 : (j : Int) < 8 := by omega
        generalize hcb : bs.getD j 0 = cb at *
        have Hcb := Lib.hid hcb
        clear hcb
        generalize hgv : M.lv bs j = gv at *
        have Hgv := Lib.hid hgv
        clear hgv
        go_wp2
        go_round
        case rel =>
          refine ⟨j + 1, by omega, by go_num, ?_⟩
          rw [or_le gv cb j hgl (by omega) hc1, M.lv, Hgv.out, Hcb.out]
        case measure => simp [intOf]; omega
      · have hje : j = min n 8 := by omega
        have hj8 : ¬ (j : Int) < min (n : Int) 8 := by omega
        have HJ := Lib.hid hje
        clear hje
        go_wp2
        go_ret
        exact ⟨by rw [← HJ.out]; rfl, rfl⟩

/-- How many bytes are laid: below 0 none, above 8 eight. -/
def kk (size : Int) : Nat := (min (max size 0) 8).toNat
theorem kk_le (size : Int) : kk size ≤ 8 := by unfold kk; omega
theorem kk_cast (size : Int) : min (max size 0) 8 = (kk size : Int) := by unfold kk; omega

theorem shr_byte (X j : Nat) : (X : Int) / 2 ^ (8 * j) % 256 = ((X / 256 ^ j % 256 : Nat) : Int) := by
  rw [M.pow256]; simp

set_option maxHeartbeats 400000 in
set_option maxRecDepth 100000 in
theorem putLittle_any (x : Int) (h0 : 0 ≤ x) (h1 : x ≤ 18446744073709551615) (size : Int) (w : World) (base : Nat) {v : Value} {n : Nat} {xs : List Value} (hbuf : Buf w base v n xs) (hn : n ≤ 1000000000) (hbase : base ≤ w.heap.size) :
    Calls Try.prog 31 #[v, .int .u64 x, .int .i64 size] w fun e w' => ∃ v', e = .returned v' ∧ Laid w base v w' v' (n + kk size) (xs ++ bys (M.leB x.toNat (kk size))) := by
  obtain ⟨i0, hi, hz0, hz1, hz2⟩ := info_parts Try.info5
  obtain ⟨X, rfl⟩ := Int.eq_ofNat_of_zero_le h0
  rw [Int.toNat_natCast]
  have hk8 := kk_le size
  have hkk := Lib.hid (kk_cast size)
  generalize kk size = K at *
  go_enter Try.func31, Try.ntmps31
  go_wp2_with (go_at_call 45; refine (bounded_any _ _).mono ?_; rintro e w' ⟨rfl, rfl⟩; rw [hkk.out])
  go_loopg [0, 10] K (fun k d c wr => ∃ j, k = K - j ∧ j ≤ K ∧ c = .int .i64 j ∧ Laid w base v wr d (n + j) (xs ++ bys (M.leB X j)))
  case atStart => exact ⟨0, rfl, Nat.zero_le _, rfl, by simpa [M.leB, bys] using Laid.refl hbuf⟩
  case round =>
    obtain ⟨j, hk, hj, rfl, hlaid⟩ := hrel
    have hw1 : base ≤ wr.heap.size := Nat.le_trans hbase hlaid.grown.size
    have hH := Lib.hid (M.leB_succ X j)
    have hK := Lib.hid hk
    clear hk
    by_cases hlt : j < K
    · have hlt' : (j : Int) < (K : Int) := by omega
      have hj8 : (j : Int) < 8 := by omega
      go_wp2_with (at_builtin; refine wpList_append_one _ rfl (.tmp 13) (.tmp 19) 27 rfl base 5 i0 (.int .u8 0) 1 Try.underlying27 hi hz0 hz1 hz2 rfl rfl hlaid.buf rfl rfl ?b1 ?b2 hw1 ?next)
      case b1 => unfold maxLen; omega
      case b2 => omega
      case next =>
        intro v' w' r1 r2 r3
        have hl2 := hlaid.trans ⟨r1, r2, r3⟩
        clear r1 r2 r3
        rw [shr_byte] at hl2
        go_wp2
        go_roundg (K - (j + 1))
        case measure => have := hK.out; omega
        case rel =>
          refine ⟨j + 1, rfl, by omega, by go_num, ?_⟩
          rw [hH.out, bys_app]
          exact hl2
    · have hje : j = K := by omega
      subst hje
      go_wp2
      go_ret
      exact ⟨_, rfl, hlaid⟩
end Go.Proofs.Ytkdkihacpjhgmaa
