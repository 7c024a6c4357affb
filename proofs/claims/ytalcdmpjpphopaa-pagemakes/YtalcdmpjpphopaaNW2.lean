/- Walks: num.Put. -/
import Derived.Test.YtalcdmpjpphopaaNW1
import Derived.Test.YtalcdmpjpphopaaBuf
import Derived.Deep.LoopGhost
import Derived.Lib.Hide
namespace Go.Proofs.Ytalcdmpjpphopaa
set_option linter.unusedSimpArgs false
set_option linter.unusedVariables false
open Go.RowKit

theorem Try.info5 : (Try.prog.info? 5).map (fun i => (i.zero, i.size, i.bytes)) = some (some (.int .u8 0), 1, 1) := by kernel_rfl

theorem or128 (Y : Nat) : bits BinOp.or IntKind.u8 ((Y : Int) % 256) 128 = ((Y % 128 + 128 : Nat) : Int) := by
  rw [u8_or _ _ (by omega) (by omega) (by omega) (by omega)]
  have e : ((Y : Int) % 256).toNat = Y % 256 := by omega
  rw [e, show (128 : Int).toNat = 128 from rfl]
  congr 1
  have h : ∀ y : Fin 256, y.val ||| 128 = y.val % 128 + 128 := by decide +kernel
  have := h ⟨Y % 256, by omega⟩
  simp only at this
  rw [this]; omega

set_option maxHeartbeats 400000 in
set_option maxRecDepth 100000 in
theorem put_any (x : Int) (h0 : 0 ≤ x) (h1 : x ≤ 18446744073709551615) (w : World) (base : Nat) {v : Value} {n : Nat} {xs : List Value} (hbuf : Buf w base v n xs) (hn : n ≤ 1000000000) (hbase : base ≤ w.heap.size) :
    Calls Try.prog 13 #[v, .int .u64 x] w fun e w' => ∃ v', e = .returned v' ∧ Laid w base v w' v' (n + M.sz x.toNat) (xs ++ bys (M.putB x.toNat)) := by
  obtain ⟨i0, hi, hz0, hz1, hz2⟩ := info_parts Try.info5
  obtain ⟨X, rfl⟩ := Int.eq_ofNat_of_zero_le h0
  rw [Int.toNat_natCast]
  have hp := M.sz_pos X
  have hp10 := M.sz_le X (by omega)
  go_enter Try.func13, Try.ntmps13
  go_wp2_with (go_at_call 26; refine (size_any _ (by omega) (by omega) _).mono ?_; rintro e w' ⟨rfl, rfl⟩; rw [Int.toNat_natCast])
  go_loopg [0, 1, 8] (M.sz X - 1) (fun k d y c wr => ∃ j, k = M.sz X - 1 - j ∧ j ≤ M.sz X - 1 ∧ c = .int .i64 j ∧ y = .int .u64 ((X / 128 ^ j : Nat) : Int) ∧ Laid w base v wr d (n + j) (xs ++ bys (M.putH X j)))
  case atStart => exact ⟨0, rfl, Nat.zero_le _, rfl, by simp, by simpa [M.putH, bys] using Laid.refl hbuf⟩
  case round =>
    obtain ⟨j, hk, hj, rfl, rfl, hlaid⟩ := hrel
    have hw1 : base ≤ wr.heap.size := Nat.le_trans hbase hlaid.grown.size
    have hH := Lib.hid (M.putH_succ X j)
    have hD := Lib.hid (show X / 128 ^ (j + 1) = X / 128 ^ j / 128 by rw [Nat.pow_succ, Nat.div_div_eq_div_mul])
    have hK := Lib.hid hk
    clear hk
    generalize hY : X / 128 ^ j = Y at *
    have HY := Lib.hid hY
    clear hY
    by_cases hlt : j < M.sz X - 1
    · have hlt' : (j : Int) < (M.sz X : Int) - 1 := by omega
      go_wp2_with (at_builtin; refine wpList_append_one _ rfl (.tmp 10) (.tmp 14) 25 rfl base 5 i0 (.int .u8 0) 1 Try.underlying25 hi hz0 hz1 hz2 rfl rfl hlaid.buf rfl rfl ?b1 ?b2 hw1 ?next)
      case b1 => unfold maxLen; omega
      case b2 => omega
      case next =>
        intro v' w' r1 r2 r3
        have hl2 := hlaid.trans ⟨r1, r2, r3⟩
        clear r1 r2 r3
        rw [or128 Y] at hl2
        go_wp2
        go_roundg (M.sz X - 1 - (j + 1))
        case measure => have := hK.out; omega
        case rel =>
          refine ⟨j + 1, rfl, by omega, by go_num, ?_, ?_⟩
          · rw [hD.out]; simp
          · rw [hH.out, bys_app]
            exact hl2
    · have hje : j = M.sz X - 1 := by omega
      have HE := Lib.hid hje
      clear hje
      have hlt' : decide ((j : Int) < (M.sz X : Int) - 1) = false := by simp; omega
      go_wp2_with (at_builtin; refine wpList_append_one _ rfl (.tmp 19) (.tmp 22) 25 rfl base 5 i0 (.int .u8 0) 1 Try.underlying25 hi hz0 hz1 hz2 rfl rfl hlaid.buf rfl rfl ?b3 ?b4 hw1 ?next2)
      case b3 => unfold maxLen; omega
      case b4 => omega
      case next2 =>
        intro v' w' r1 r2 r3
        have hl2 := hlaid.trans ⟨r1, r2, r3⟩
        clear r1 r2 r3
        go_wp2
        go_ret
        refine ⟨v', rfl, ?_⟩
        have e1 := HE.out
        have e2 := HY.out
        have e3 := M.putB_last_lt X
        rw [← e1, e2] at e3
        have e4 : ((Y : Int) % 256) = ((Y : Nat) : Int) := by omega
        rw [e4] at hl2
        unfold M.putB
        rw [← e1, e2, bys_app, show n + M.sz X = n + j + 1 by omega]
        exact hl2
end Go.Proofs.Ytalcdmpjpphopaa
