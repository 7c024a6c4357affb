/- The walk of NumPuts. -/
import Derived.Test.YtkbdmbefhndlcaaW4
import Derived.Lib.SlBytesConst
namespace Go.Proofs.Ytkbdmbefhndlcaa
set_option linter.unusedSimpArgs false
set_option linter.unusedVariables false
open Go.RowKit

set_option maxHeartbeats 1000000 in
set_option maxRecDepth 100000 in
theorem puts_long (x : Int) (A : Option Addr) (n c : Nat) (w : World) (h300 : (300 : Int) < n) :
    Calls Try.prog 3 #[.int .u64 x, .slice A n c] w fun e w' => e = .returned (.bool true) ∧ Below w.heap.size w w' := by
  go_enter Try.func3, Try.ntmps3
  go_wp2_with fail
  refine (put300 _).mono ?_
  rintro e w1 ⟨A1, c1, rfl, hcv, hb1⟩
  go_wp2_with fail
  go_ret
  exact ⟨rfl, hb1⟩

set_option maxHeartbeats 1000000 in
set_option maxRecDepth 100000 in
theorem puts_walk (x : Int) (h0 : 0 ≤ x) (h1 : x ≤ 18446744073709551615) (A : Option Addr) (n c : Nat) (bs : List Nat) (w : World) (hr : Rd w w.heap.size A n (bys bs)) (hb : ∀ c ∈ bs, c < 256) (hlen : bs.length = n) (h300 : (n : Int) ≤ 300) (hc : n ≤ c) :
    Calls Try.prog 3 #[.int .u64 x, .slice A n c] w fun e w' => e = .returned (.bool true) ∧ Below w.heap.size w w' := by
  obtain ⟨i0, hi, hz0, hz1, hz2⟩ := info_parts Try.info5
  obtain ⟨X, rfl⟩ := Int.eq_ofNat_of_zero_le h0
  have hp := M.sz_pos X
  have hp10 := M.sz_le X (by omega)
  have Hlen := Lib.hid hlen
  clear hlen
  have hd : decide (300 < (n : Int)) = false := by simp; omega
  have kc := fun (w : World) (C : Array Value) (n c : Nat) => Lib.run_convert_bytes_const (P := Try.prog) w 23 5 C n c Try.underlying23 Try.underlying5
  go_enter Try.func3, Try.ntmps3
  go_wp2_with fail
  refine (put300 _).mono ?_
  rintro e w1 ⟨A1, c1, rfl, hcv, hb1⟩
  go_wp2_with fail
  clear hcv
  have hr1 := hr.below hb1
  have hb0 := Buf.new w1 w1.heap.size 5 #[] (0, 0) (Nat.le_refl _) (by unfold maxLen; simp)
  have hal : Below w.heap.size w (w1.alloc (.cells #[] 5)) := hb1.alloc hb1.size _
  go_loopg [5, 6] (M.sz X) (fun k d y wr => ∃ j, k = M.sz X - j ∧ j < M.sz X ∧ y = .int .u64 ((X / 128 ^ j : Nat) : Int) ∧ Laid (w1.alloc (.cells #[] 5)) w1.heap.size (.slice (some ⟨w1.heap.size, 0, none⟩) 0 0) wr d j (bys (M.putH X j)))
  case atStart => exact ⟨0, rfl, hp, by simp, Laid.refl hb0⟩
  case round =>
    obtain ⟨j, hk, hj, rfl, hlaid⟩ := hrel
    have hw1 : w1.heap.size ≤ wr.heap.size := by have := hlaid.grown.size; simp at this; omega
    have hH := Lib.hid (M.putH_succ X j)
    have hD := Lib.hid (show X / 128 ^ (j + 1) = X / 128 ^ j / 128 by rw [Nat.pow_succ, Nat.div_div_eq_div_mul])
    have hK := Lib.hid hk
    clear hk
    have hpos : j < M.sz X - 1 → 1 ≤ X / 128 ^ (j + 1) := fun h => by
      have h1 := M.sz_ge X (by omega)
      have h2 : 128 ^ (j + 1) ≤ 128 ^ (M.sz X - 1) := Nat.pow_le_pow_right (by decide) (by omega)
      exact Nat.div_pos (Nat.le_trans h2 h1) (Nat.pow_pos (by decide))
    have hzero : j = M.sz X - 1 → X / 128 ^ (j + 1) = 0 := fun h => by
      have h1 := M.sz_lt X
      have e : j + 1 = M.sz X := by omega
      rw [e]; exact Nat.div_eq_of_lt h1
    rw [hD.out] at hpos hzero
    have hlst := M.putB_last_lt X
    have hlst2 : j = M.sz X - 1 → X / 128 ^ j < 128 := fun h => by rw [h]; exact hlst
    clear hlst
    have hYb : ((X / 128 ^ j : Nat) : Int) ≤ 18446744073709551615 := by
      have := Nat.div_le_self X (128 ^ j)
      omega
    generalize hY : X / 128 ^ j = Y at *
    have HY := Lib.hid hY
    clear hY
    by_cases hlt : j < M.sz X - 1
    · have hp1 : ((Y : Int) / 128 == 0) = false := beq_eq_false_iff_ne.2 (by have := hpos hlt; omega)
      clear hpos hzero hlst2
      go_wp2_with (at_builtin; refine wpList_append_one _ rfl (.tmp 31) (.tmp 34) 23 rfl w1.heap.size 5 i0 (.int .u8 0) 1 Try.underlying23 hi hz0 hz1 hz2 rfl rfl hlaid.buf rfl rfl ?b1 ?b2 hw1 ?next)
      case b1 => unfold maxLen; omega
      case b2 => omega
      case next =>
        intro v' w' r1 r2 r3
        have hl2 := hlaid.trans ⟨r1, r2, r3⟩
        clear r1 r2 r3
        have e1 : ((Y : Int) % 128 + 128) = ((Y % 128 + 128 : Nat) : Int) := by omega
        rw [e1] at hl2
        clear e1
        go_wp2
        go_roundg (M.sz X - (j + 1))
        case measure => have := hK.out; omega
        case rel =>
          refine ⟨j + 1, rfl, by omega, ?_, ?_⟩
          · rw [hD.out]; simp
          · rw [hH.out, bys_app]
            exact hl2
    · have hje : j = M.sz X - 1 := by omega
      have hp1 := hzero hje
      have hp2 := hlst2 hje
      have hp3 : ((Y : Int) / 128 == 0) = true := beq_iff_eq.2 (by omega)
      have HE := Lib.hid hje
      clear hje hpos hzero hlst2 hp1
      go_wp2_with (at_builtin; refine wpList_append_one _ rfl (.tmp 27) (.tmp 29) 23 rfl w1.heap.size 5 i0 (.int .u8 0) 1 Try.underlying23 hi hz0 hz1 hz2 rfl rfl hlaid.buf rfl rfl ?b3 ?b4 hw1 ?next2)
      case b3 => unfold maxLen; omega
      case b4 => omega
      case next2 =>
        intro v' w' r1 r2 r3
        have hl2 := hlaid.trans ⟨r1, r2, r3⟩
        clear r1 r2 r3
        have hl3 : Laid (w1.alloc (.cells #[] 5)) w1.heap.size (.slice (some ⟨w1.heap.size, 0, none⟩) 0 0) w' v' (M.sz X) (bys (M.putB X)) := by
          have e1 := HE.out
          have e2 := HY.out
          have e4 : ((Y : Int) % 128) = ((Y : Nat) : Int) := by omega
          rw [e4] at hl2
          unfold M.putB
          rw [← e1, e2, bys_app, show M.sz X = j + 1 by omega]
          exact hl2
        clear hl2
        have hbW : Below w.heap.size w w' := hal.trans ((hl3.below hb0 (by simp)).mono hb1.size)
        obtain ⟨AW, cW, rfl, hcW, hrW⟩ := hl3.buf.slice
        clear hl3 hlaid hH hD hK HY HE hp2 hp3
        have hrm := hr.below hbW
        go_wp2_with fail
        refine (put_any (X : Int) (by omega) (by omega) _ w'.heap.size (Buf.new w' w'.heap.size 5 #[.int .u8 120] (1, 2) (Nat.le_refl _) (by unfold maxLen; simp)) (by simp) (by simp)).mono ?_
        rintro e w4 ⟨vb, rfl, hl4⟩
        have hb4 : Below w'.heap.size w' w4 := ((Below.refl _ _).alloc (Nat.le_refl _) _).trans (hl4.below (Buf.new w' w'.heap.size 5 #[.int .u8 120] (1, 2) (Nat.le_refl _) (by unfold maxLen; simp)) (by simp))
        obtain ⟨Ab, cb, rfl, hcb, hrb⟩ := hl4.buf.slice
        have hrb' : Rd w4 w4.heap.size Ab (1 + M.sz X) (bys (120 :: M.putB X)) := hrb
        clear hrb hl4
        have hq1 := conv_of cb hrb'
        have hrW4 := hrW.below hb4
        have hq2 := conv_of cW hrW4
        have hbw4 : Below w.heap.size w w4 := hbW.trans (hb4.mono hbW.size)
        have hrm4 := hr.below hbw4
        have hss : ((strB (M.putB X)).size : Int) ≤ 8388608 := by rw [strB_size, M.putB_len]; omega
        have heq : strB (120 :: M.putB X) = ⟨#[120]⟩ ++ strB (M.putB X) := by
          have := strB_app [120] (M.putB X)
          exact this.symm
        rw [heq] at hq1
        clear heq
        generalize hst : strB (M.putB X) = st at *
        have Hst := Lib.hid hst
        clear hst
        go_wp2_with fail
        clear hq1 hq2 hss
        refine (size_any _ (by omega) (by omega) _).mono ?_
        rintro e w5 ⟨rfl, rfl⟩
        rw [Int.toNat_natCast]
        have hB5 := Buf.new w4 w4.heap.size 5 #[] (0, 0) (Nat.le_refl _) (by unfold maxLen; simp)
        have hrW5 := hrW4.alloc hb4.size (.cells #[] 5)
        have hn' : n ≤ 300 := by omega
        go_wp2_with (at_builtin; refine wpList_append_buf _ rfl (.tmp 54) (.tmp 55) 23 rfl w4.heap.size 5 i0 (.int .u8 0) 1 Try.underlying23 hi hz0 hz1 hz2 rfl rfl hB5 rfl hrW5 (bys_one _) ?c1 ?c2 (by simp) ?c3)
        case c1 => unfold maxLen; simp; omega
        case c2 => simp; omega
        case c3 =>
          intro v5 w5 r1 r2 r3
          have hl5 : Laid (w4.alloc (.cells #[] 5)) w4.heap.size (.slice (some ⟨w4.heap.size, 0, none⟩) 0 0) w5 v5 (M.sz X) (bys (M.putB X)) := ⟨by simpa using r1, r2, by simpa using r3⟩
          clear r1 r2 r3
          have hb5 : Below w4.heap.size w4 w5 := ((Below.refl _ _).alloc (Nat.le_refl _) _).trans (hl5.below hB5 (by simp))
          have hrm5 := hrm4.below (hb5.mono hbw4.size)
          have hw5 : w4.heap.size ≤ w5.heap.size := hb5.size
          go_wp2_with (at_builtin; refine wpList_append_buf _ rfl (.tmp 56) (.tmp 57) 23 rfl w4.heap.size 5 i0 (.int .u8 0) 1 Try.underlying23 hi hz0 hz1 hz2 rfl rfl hl5.buf rfl hrm5 (bys_one _) ?d1 ?d2 hw5 ?d3)
          case d1 => unfold maxLen; omega
          case d2 => omega
          case d3 =>
            intro v6 w6 r1 r2 r3
            have hl6 := hl5.trans ⟨r1, r2, r3⟩
            clear r1 r2 r3
            have hb6 : Below w4.heap.size w4 w6 := ((Below.refl _ _).alloc (Nat.le_refl _) _).trans (hl6.below hB5 (by simp))
            have hbw6 : Below w.heap.size w w6 := hbw4.trans (hb6.mono hbw4.size)
            obtain ⟨A6, c6, rfl, hc6, hr6⟩ := hl6.buf.slice
            rw [← bys_app] at hr6
            clear hl6 hl5 hrm5 hrW5
            obtain ⟨g1, g2, g3⟩ := M.get_put X (by omega) bs
            have hLd := M.lead_put X (by omega) bs
            go_wp2_with fail
            refine (get_any A6 _ c6 (M.putB X ++ bs) w6 _ hr6 ?e1 (by omega) _ hLd).mono ?_
            case e1 =>
              intro y hy
              rcases List.mem_append.1 hy with hy | hy
              · exact M.putB_lt X y hy
              · exact hb y hy
            rintro e w7 ⟨rfl, rfl⟩
            rw [g1, g2, g3]
            clear g1 g2 g3 hLd
            go_wp2
            go_ret
            exact ⟨by simp, hbw6⟩
end Go.Proofs.Ytkbdmbefhndlcaa
