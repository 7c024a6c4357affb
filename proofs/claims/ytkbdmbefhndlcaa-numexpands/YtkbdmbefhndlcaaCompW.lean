/- The walk of NumCompacts. -/
import Derived.Test.YtkbdmbefhndlcaaW7
import Derived.Lib.SlBytesConst
import Derived.Deep.DeepCutAuto
namespace Go.Proofs.Ytkbdmbefhndlcaa
set_option linter.unusedSimpArgs false
set_option linter.unusedVariables false
open Go.RowKit

set_option maxHeartbeats 1000000 in
set_option maxRecDepth 100000 in
theorem comps_long (x : Int) (A : Option Addr) (n c : Nat) (w : World) (h300 : (300 : Int) < n) :
    Calls Try.prog 5 #[.int .u64 x, .slice A n c] w fun e w' => e = .returned (.bool true) ∧ Below w.heap.size w w' := by
  go_enter Try.func5, Try.ntmps5
  go_wp2_with fail
  refine (compact300 _).mono ?_
  rintro e w1 ⟨A1, c1, rfl, hcv, hb1⟩
  go_wp2_with fail
  go_ret
  exact ⟨rfl, hb1⟩

set_option maxHeartbeats 1000000 in
set_option maxRecDepth 100000 in
theorem comps_0 (X : Nat) (h1 : (X : Int) ≤ 18446744073709551615) (q1 : (X : Int) < 253) (hcs : M.cs X = 0) (hcb : M.compB X = X :: M.leB X 0) (A : Option Addr) (n c : Nat) (bs : List Nat) (w : World) (hr : Rd w w.heap.size A n (bys bs)) (hb : ∀ c ∈ bs, c < 256) (h300 : (n : Int) ≤ 300) (hc : n ≤ c)
    (hxe : M.xe (M.compB X ++ bs) = 0) (hxk : M.xk (M.compB X ++ bs) = 1 + 0) (hxn : M.xnum (M.compB X ++ bs) = X) :
    Calls Try.prog 5 #[.int .u64 (X : Int), .slice A n c] w fun e w' => e = .returned (.bool true) ∧ Below w.heap.size w w' := by
  obtain ⟨i0, hi, hz0, hz1, hz2⟩ := info_parts Try.info5
  have hd : decide (300 < (n : Int)) = false := by simp; omega
  have q2 : (X : Int) % 256 = X := by omega
  have q3 : decide ((253 : Int) ≤ (X : Int)) = false := by simp; omega
  have q4 : decide ((65536 : Int) ≤ (X : Int)) = false := by simp; omega
  have q5 : decide ((4294967296 : Int) ≤ (X : Int)) = false := by simp; omega
  have kc := fun (w : World) (C : Array Value) (n c : Nat) => Lib.run_convert_bytes_const (P := Try.prog) w 23 5 C n c Try.underlying23 Try.underlying5
  have HCS := Lib.hid hcs
  have HCB := Lib.hid hcb
  have HXE := Lib.hid hxe
  have HXK := Lib.hid hxk
  have HXN := Lib.hid hxn
  clear hcs hcb hxe hxk hxn
  go_enter Try.func5, Try.ntmps5
  go_wp2_with fail
  refine (compact300 _).mono ?_
  rintro e w1 ⟨A1, c1, rfl, hcv, hb1⟩
  go_wp2_with fail
  clear hcv
  have hb0 := Buf.new w1 w1.heap.size 5 #[.int .u8 ((X : Nat) : Int)] (0, 0) (Nat.le_refl _) (by unfold maxLen; simp)
  have hal : Below w.heap.size w (w1.alloc (.cells #[.int .u8 ((X : Nat) : Int)] 5)) := hb1.alloc hb1.size _
  go_loopg [7, 8, 9] 0 (fun k d y i wr => ∃ j, k = 0 - j ∧ j ≤ 0 ∧ i = .int .i64 j ∧ y = .int .u64 ((X / 256 ^ j : Nat) : Int) ∧ Laid (w1.alloc (.cells #[.int .u8 ((X : Nat) : Int)] 5)) w1.heap.size (.slice (some ⟨w1.heap.size, 0, none⟩) 1 1) wr d (1 + j) (bys (X :: M.leB X j)))
  case atStart => exact ⟨0, rfl, Nat.zero_le _, rfl, by simp, Laid.refl hb0⟩
  case round =>
    obtain ⟨j, hk, hj, rfl, rfl, hlaid⟩ := hrel
    have hw1 : w1.heap.size ≤ wr.heap.size := by have := hlaid.grown.size; simp at this; omega
    have hK := Lib.hid hk
    clear hk
    by_cases hlt : j < 0
    · exact absurd hlt (by omega)
    · have hje : j = 0 := by omega
      subst hje
      clear hlt hj hK
      have hbW : Below w.heap.size w wr := hal.trans ((hlaid.below hb0 (by simp)).mono hb1.size)
      obtain ⟨AW, cW, rfl, hcW, hrW⟩ := hlaid.buf.slice
      rw [← HCB.out] at hrW
      clear hlaid
      have hrm := hr.below hbW
      go_wp2_with fail
      refine (compact_any (X : Int) (by omega) h1 _ wr.heap.size (Buf.new wr wr.heap.size 5 #[.int .u8 121, .int .u8 122] (2, 3) (Nat.le_refl _) (by unfold maxLen; simp)) (by simp) (by simp)).mono ?_
      rintro e w4 ⟨vb, rfl, hl4⟩
      rw [Int.toNat_natCast, HCS.out] at hl4
      have hb4 : Below wr.heap.size wr w4 := ((Below.refl _ _).alloc (Nat.le_refl _) _).trans (hl4.below (Buf.new wr wr.heap.size 5 #[.int .u8 121, .int .u8 122] (2, 3) (Nat.le_refl _) (by unfold maxLen; simp)) (by simp))
      obtain ⟨Ab, cb, rfl, hcb, hrb⟩ := hl4.buf.slice
      have hrb' : Rd w4 w4.heap.size Ab (2 + (1 + 0)) (bys (121 :: 122 :: M.compB X)) := hrb
      clear hrb hl4
      have hq1 := conv_of cb hrb'
      have hrW4 := hrW.below hb4
      have hq2 := conv_of cW hrW4
      have hbw4 : Below w.heap.size w w4 := hbW.trans (hb4.mono hbW.size)
      have hrm4 := hr.below hbw4
      have hss : ((strB (M.compB X)).size : Int) ≤ 8388608 := by rw [strB_size, M.compB_len, HCS.out]; omega
      have heq : strB (121 :: 122 :: M.compB X) = ⟨#[121, 122]⟩ ++ strB (M.compB X) := (strB_app [121, 122] (M.compB X)).symm
      rw [heq] at hq1
      clear heq
      generalize hst : strB (M.compB X) = st at *
      have Hst := Lib.hid hst
      clear hst
      have hB5 := Buf.new w4 w4.heap.size 5 #[] (0, 0) (Nat.le_refl _) (by unfold maxLen; simp)
      have hrW5 := hrW4.alloc hb4.size (.cells #[] 5)
      have hn' : n ≤ 300 := by omega
      go_wp2_with (at_builtin; refine wpList_append_buf _ rfl (.tmp 56) (.tmp 57) 23 rfl w4.heap.size 5 i0 (.int .u8 0) 1 Try.underlying23 hi hz0 hz1 hz2 rfl rfl hB5 rfl hrW5 (bys_one _) ?c1 ?c2 (by simp) ?c3)
      case c1 => unfold maxLen; simp
      case c2 => simp
      case c3 =>
        intro v5 w5 r1 r2 r3
        clear hq1 hq2
        have hl5 : Laid (w4.alloc (.cells #[] 5)) w4.heap.size (.slice (some ⟨w4.heap.size, 0, none⟩) 0 0) w5 v5 (1 + 0) (bys (M.compB X)) := ⟨by simpa using r1, r2, by simpa using r3⟩
        clear r1 r2 r3
        have hb5 : Below w4.heap.size w4 w5 := ((Below.refl _ _).alloc (Nat.le_refl _) _).trans (hl5.below hB5 (by simp))
        have hrm5 := hrm4.below (hb5.mono hbw4.size)
        have hw5 : w4.heap.size ≤ w5.heap.size := hb5.size
        go_wp2_with (at_builtin; refine wpList_append_buf _ rfl (.tmp 58) (.tmp 59) 23 rfl w4.heap.size 5 i0 (.int .u8 0) 1 Try.underlying23 hi hz0 hz1 hz2 rfl rfl hl5.buf rfl hrm5 (bys_one _) ?d1 ?d2 hw5 ?d3)
        case d1 => unfold maxLen; omega
        case d2 => omega
        case d3 =>
          intro v6 w6 r1 r2 r3
          have hl6 := hl5.trans ⟨r1, r2, r3⟩
          clear r1 r2 r3
          have hb6 : Below w4.heap.size w4 w6 := ((Below.refl _ _).alloc (Nat.le_refl _) _).trans (hl6.below hB5 (by simp))
          have hbw6 : Below w.heap.size w w6 := hbw4.trans (hb6.mono hbw4.size)
          obtain ⟨A6, c6, rfl, hc6, hr6⟩ := hl6.buf.slice
          rw [← bys_app] at hr6
          have hc6m : (c6 : Int) ≤ 9223372036854775807 := by
            have := hl6.buf.cap_le
            simp [maxLen] at this
            omega
          clear hl6 hl5 hrm5 hrW5
          go_wp2_with fail
          refine (expand_any A6 _ c6 (M.compB X ++ bs) w6 _ hr6 ?e1 (by omega) hc6 hc6m).mono ?_
          case e1 =>
            intro y hy
            rcases List.mem_append.1 hy with hy | hy
            · exact M.compB_lt X y hy
            · exact hb y hy
          rintro e w7 ⟨rfl, rfl⟩
          rw [HXE.out, HXK.out, HXN.out]
          go_wp2
          go_ret
          exact ⟨by simp, hbw6⟩

set_option maxHeartbeats 1000000 in
set_option maxRecDepth 100000 in
theorem comps_2 (X : Nat) (h1 : (X : Int) ≤ 18446744073709551615) (q1 : (253 : Int) ≤ (X : Int)) (q2 : (X : Int) ≤ 65535) (hcs : M.cs X = 2) (hcb : M.compB X = 253 :: M.leB X 2) (A : Option Addr) (n c : Nat) (bs : List Nat) (w : World) (hr : Rd w w.heap.size A n (bys bs)) (hb : ∀ c ∈ bs, c < 256) (h300 : (n : Int) ≤ 300) (hc : n ≤ c)
    (hxe : M.xe (M.compB X ++ bs) = 0) (hxk : M.xk (M.compB X ++ bs) = 1 + 2) (hxn : M.xnum (M.compB X ++ bs) = X) :
    Calls Try.prog 5 #[.int .u64 (X : Int), .slice A n c] w fun e w' => e = .returned (.bool true) ∧ Below w.heap.size w w' := by
  obtain ⟨i0, hi, hz0, hz1, hz2⟩ := info_parts Try.info5
  have hd : decide (300 < (n : Int)) = false := by simp; omega
  have q4 : decide ((65536 : Int) ≤ (X : Int)) = false := by simp; omega
  have q5 : decide ((4294967296 : Int) ≤ (X : Int)) = false := by simp; omega
  have kc := fun (w : World) (C : Array Value) (n c : Nat) => Lib.run_convert_bytes_const (P := Try.prog) w 23 5 C n c Try.underlying23 Try.underlying5
  have HCS := Lib.hid hcs
  have HCB := Lib.hid hcb
  have HXE := Lib.hid hxe
  have HXK := Lib.hid hxk
  have HXN := Lib.hid hxn
  clear hcs hcb hxe hxk hxn
  go_enter Try.func5, Try.ntmps5
  go_wp2_with fail
  refine (compact300 _).mono ?_
  rintro e w1 ⟨A1, c1, rfl, hcv, hb1⟩
  go_wp2_with fail
  clear hcv
  have hb0 := Buf.new w1 w1.heap.size 5 #[.int .u8 253] (0, 0) (Nat.le_refl _) (by unfold maxLen; simp)
  have hal : Below w.heap.size w (w1.alloc (.cells #[.int .u8 253] 5)) := hb1.alloc hb1.size _
  go_loopg [7, 8, 9] 2 (fun k d y i wr => ∃ j, k = 2 - j ∧ j ≤ 2 ∧ i = .int .i64 j ∧ y = .int .u64 ((X / 256 ^ j : Nat) : Int) ∧ Laid (w1.alloc (.cells #[.int .u8 253] 5)) w1.heap.size (.slice (some ⟨w1.heap.size, 0, none⟩) 1 1) wr d (1 + j) (bys (253 :: M.leB X j)))
  case atStart => exact ⟨0, rfl, Nat.zero_le _, rfl, by simp, Laid.refl hb0⟩
  case round =>
    obtain ⟨j, hk, hj, rfl, rfl, hlaid⟩ := hrel
    have hw1 : w1.heap.size ≤ wr.heap.size := by have := hlaid.grown.size; simp at this; omega
    have hK := Lib.hid hk
    clear hk
    by_cases hlt : j < 2
    · have hH := Lib.hid (M.leB_succ X j)
      have hD := Lib.hid (show X / 256 ^ (j + 1) = X / 256 ^ j / 256 by rw [Nat.pow_succ, Nat.div_div_eq_div_mul])
      have hYb : ((X / 256 ^ j : Nat) : Int) ≤ 18446744073709551615 := by
        have := Nat.div_le_self X (256 ^ j)
        omega
      generalize hY : X / 256 ^ j = Y at *
      have HY := Lib.hid hY
      clear hY
      have hlt' : (j : Int) < 2 := by omega
      go_wp2_with (at_builtin; refine wpList_append_one _ rfl (.tmp 37) (.tmp 41) 23 rfl w1.heap.size 5 i0 (.int .u8 0) 1 Try.underlying23 hi hz0 hz1 hz2 rfl rfl hlaid.buf rfl rfl ?b1 ?b2 hw1 ?next)
      case b1 => unfold maxLen; omega
      case b2 => omega
      case next =>
        intro v' w' r1 r2 r3
        have hl2 := hlaid.trans ⟨r1, r2, r3⟩
        clear r1 r2 r3
        go_wp2
        go_roundg (2 - (j + 1))
        case measure => have := hK.out; omega
        case rel =>
          refine ⟨j + 1, rfl, by omega, by go_num, ?_, ?_⟩
          · rw [hD.out]; simp
          · rw [hH.out]
            have e4 : ((Y : Int) % 256) = ((Y % 256 : Nat) : Int) := by omega
            rw [e4] at hl2
            have e5 : bys (253 :: (M.leB X j ++ [Y % 256])) = bys (253 :: M.leB X j) ++ [.int .u8 ((Y % 256 : Nat) : Int)] := by simp [bys]
            rw [e5, ← Nat.add_assoc]
            exact hl2
    · have hje : j = 2 := by omega
      subst hje
      clear hlt hj hK
      have hbW : Below w.heap.size w wr := hal.trans ((hlaid.below hb0 (by simp)).mono hb1.size)
      obtain ⟨AW, cW, rfl, hcW, hrW⟩ := hlaid.buf.slice
      rw [← HCB.out] at hrW
      clear hlaid
      have hrm := hr.below hbW
      go_wp2_with fail
      refine (compact_any (X : Int) (by omega) h1 _ wr.heap.size (Buf.new wr wr.heap.size 5 #[.int .u8 121, .int .u8 122] (2, 3) (Nat.le_refl _) (by unfold maxLen; simp)) (by simp) (by simp)).mono ?_
      rintro e w4 ⟨vb, rfl, hl4⟩
      rw [Int.toNat_natCast, HCS.out] at hl4
      have hb4 : Below wr.heap.size wr w4 := ((Below.refl _ _).alloc (Nat.le_refl _) _).trans (hl4.below (Buf.new wr wr.heap.size 5 #[.int .u8 121, .int .u8 122] (2, 3) (Nat.le_refl _) (by unfold maxLen; simp)) (by simp))
      obtain ⟨Ab, cb, rfl, hcb, hrb⟩ := hl4.buf.slice
      have hrb' : Rd w4 w4.heap.size Ab (2 + (1 + 2)) (bys (121 :: 122 :: M.compB X)) := hrb
      clear hrb hl4
      have hq1 := conv_of cb hrb'
      have hrW4 := hrW.below hb4
      have hq2 := conv_of cW hrW4
      have hbw4 : Below w.heap.size w w4 := hbW.trans (hb4.mono hbW.size)
      have hrm4 := hr.below hbw4
      have hss : ((strB (M.compB X)).size : Int) ≤ 8388608 := by rw [strB_size, M.compB_len, HCS.out]; omega
      have heq : strB (121 :: 122 :: M.compB X) = ⟨#[121, 122]⟩ ++ strB (M.compB X) := (strB_app [121, 122] (M.compB X)).symm
      rw [heq] at hq1
      clear heq
      generalize hst : strB (M.compB X) = st at *
      have Hst := Lib.hid hst
      clear hst
      have hB5 := Buf.new w4 w4.heap.size 5 #[] (0, 0) (Nat.le_refl _) (by unfold maxLen; simp)
      have hrW5 := hrW4.alloc hb4.size (.cells #[] 5)
      have hn' : n ≤ 300 := by omega
      go_wp2_with (at_builtin; refine wpList_append_buf _ rfl (.tmp 56) (.tmp 57) 23 rfl w4.heap.size 5 i0 (.int .u8 0) 1 Try.underlying23 hi hz0 hz1 hz2 rfl rfl hB5 rfl hrW5 (bys_one _) ?c1 ?c2 (by simp) ?c3)
      case c1 => unfold maxLen; simp
      case c2 => simp
      case c3 =>
        intro v5 w5 r1 r2 r3
        clear hq1 hq2
        have hl5 : Laid (w4.alloc (.cells #[] 5)) w4.heap.size (.slice (some ⟨w4.heap.size, 0, none⟩) 0 0) w5 v5 (1 + 2) (bys (M.compB X)) := ⟨by simpa using r1, r2, by simpa using r3⟩
        clear r1 r2 r3
        have hb5 : Below w4.heap.size w4 w5 := ((Below.refl _ _).alloc (Nat.le_refl _) _).trans (hl5.below hB5 (by simp))
        have hrm5 := hrm4.below (hb5.mono hbw4.size)
        have hw5 : w4.heap.size ≤ w5.heap.size := hb5.size
        go_wp2_with (at_builtin; refine wpList_append_buf _ rfl (.tmp 58) (.tmp 59) 23 rfl w4.heap.size 5 i0 (.int .u8 0) 1 Try.underlying23 hi hz0 hz1 hz2 rfl rfl hl5.buf rfl hrm5 (bys_one _) ?d1 ?d2 hw5 ?d3)
        case d1 => unfold maxLen; omega
        case d2 => omega
        case d3 =>
          intro v6 w6 r1 r2 r3
          have hl6 := hl5.trans ⟨r1, r2, r3⟩
          clear r1 r2 r3
          have hb6 : Below w4.heap.size w4 w6 := ((Below.refl _ _).alloc (Nat.le_refl _) _).trans (hl6.below hB5 (by simp))
          have hbw6 : Below w.heap.size w w6 := hbw4.trans (hb6.mono hbw4.size)
          obtain ⟨A6, c6, rfl, hc6, hr6⟩ := hl6.buf.slice
          rw [← bys_app] at hr6
          have hc6m : (c6 : Int) ≤ 9223372036854775807 := by
            have := hl6.buf.cap_le
            simp [maxLen] at this
            omega
          clear hl6 hl5 hrm5 hrW5
          go_wp2_with fail
          refine (expand_any A6 _ c6 (M.compB X ++ bs) w6 _ hr6 ?e1 (by omega) hc6 hc6m).mono ?_
          case e1 =>
            intro y hy
            rcases List.mem_append.1 hy with hy | hy
            · exact M.compB_lt X y hy
            · exact hb y hy
          rintro e w7 ⟨rfl, rfl⟩
          rw [HXE.out, HXK.out, HXN.out]
          go_wp2
          go_ret
          exact ⟨by simp, hbw6⟩

set_option maxHeartbeats 1000000 in
set_option maxRecDepth 100000 in
theorem comps_4 (X : Nat) (h1 : (X : Int) ≤ 18446744073709551615) (q1 : (65536 : Int) ≤ (X : Int)) (q2 : (X : Int) ≤ 4294967295) (hcs : M.cs X = 4) (hcb : M.compB X = 254 :: M.leB X 4) (A : Option Addr) (n c : Nat) (bs : List Nat) (w : World) (hr : Rd w w.heap.size A n (bys bs)) (hb : ∀ c ∈ bs, c < 256) (h300 : (n : Int) ≤ 300) (hc : n ≤ c)
    (hxe : M.xe (M.compB X ++ bs) = 0) (hxk : M.xk (M.compB X ++ bs) = 1 + 4) (hxn : M.xnum (M.compB X ++ bs) = X) :
    Calls Try.prog 5 #[.int .u64 (X : Int), .slice A n c] w fun e w' => e = .returned (.bool true) ∧ Below w.heap.size w w' := by
  obtain ⟨i0, hi, hz0, hz1, hz2⟩ := info_parts Try.info5
  have hd : decide (300 < (n : Int)) = false := by simp; omega
  have q0 : (253 : Int) ≤ (X : Int) := by omega
  have q5 : decide ((4294967296 : Int) ≤ (X : Int)) = false := by simp; omega
  have kc := fun (w : World) (C : Array Value) (n c : Nat) => Lib.run_convert_bytes_const (P := Try.prog) w 23 5 C n c Try.underlying23 Try.underlying5
  have HCS := Lib.hid hcs
  have HCB := Lib.hid hcb
  have HXE := Lib.hid hxe
  have HXK := Lib.hid hxk
  have HXN := Lib.hid hxn
  clear hcs hcb hxe hxk hxn
  go_enter Try.func5, Try.ntmps5
  go_wp2_with fail
  refine (compact300 _).mono ?_
  rintro e w1 ⟨A1, c1, rfl, hcv, hb1⟩
  go_wp2_with fail
  clear hcv
  have hb0 := Buf.new w1 w1.heap.size 5 #[.int .u8 254] (0, 0) (Nat.le_refl _) (by unfold maxLen; simp)
  have hal : Below w.heap.size w (w1.alloc (.cells #[.int .u8 254] 5)) := hb1.alloc hb1.size _
  go_loopg [7, 8, 9] 4 (fun k d y i wr => ∃ j, k = 4 - j ∧ j ≤ 4 ∧ i = .int .i64 j ∧ y = .int .u64 ((X / 256 ^ j : Nat) : Int) ∧ Laid (w1.alloc (.cells #[.int .u8 254] 5)) w1.heap.size (.slice (some ⟨w1.heap.size, 0, none⟩) 1 1) wr d (1 + j) (bys (254 :: M.leB X j)))
  case atStart => exact ⟨0, rfl, Nat.zero_le _, rfl, by simp, Laid.refl hb0⟩
  case round =>
    obtain ⟨j, hk, hj, rfl, rfl, hlaid⟩ := hrel
    have hw1 : w1.heap.size ≤ wr.heap.size := by have := hlaid.grown.size; simp at this; omega
    have hK := Lib.hid hk
    clear hk
    by_cases hlt : j < 4
    · have hH := Lib.hid (M.leB_succ X j)
      have hD := Lib.hid (show X / 256 ^ (j + 1) = X / 256 ^ j / 256 by rw [Nat.pow_succ, Nat.div_div_eq_div_mul])
      have hYb : ((X / 256 ^ j : Nat) : Int) ≤ 18446744073709551615 := by
        have := Nat.div_le_self X (256 ^ j)
        omega
      generalize hY : X / 256 ^ j = Y at *
      have HY := Lib.hid hY
      clear hY
      have hlt' : (j : Int) < 4 := by omega
      go_wp2_with (at_builtin; refine wpList_append_one _ rfl (.tmp 37) (.tmp 41) 23 rfl w1.heap.size 5 i0 (.int .u8 0) 1 Try.underlying23 hi hz0 hz1 hz2 rfl rfl hlaid.buf rfl rfl ?b1 ?b2 hw1 ?next)
      case b1 => unfold maxLen; omega
      case b2 => omega
      case next =>
        intro v' w' r1 r2 r3
        have hl2 := hlaid.trans ⟨r1, r2, r3⟩
        clear r1 r2 r3
        go_wp2
        go_roundg (4 - (j + 1))
        case measure => have := hK.out; omega
        case rel =>
          refine ⟨j + 1, rfl, by omega, by go_num, ?_, ?_⟩
          · rw [hD.out]; simp
          · rw [hH.out]
            have e4 : ((Y : Int) % 256) = ((Y % 256 : Nat) : Int) := by omega
            rw [e4] at hl2
            have e5 : bys (254 :: (M.leB X j ++ [Y % 256])) = bys (254 :: M.leB X j) ++ [.int .u8 ((Y % 256 : Nat) : Int)] := by simp [bys]
            rw [e5, ← Nat.add_assoc]
            exact hl2
    · have hje : j = 4 := by omega
      subst hje
      clear hlt hj hK
      have hbW : Below w.heap.size w wr := hal.trans ((hlaid.below hb0 (by simp)).mono hb1.size)
      obtain ⟨AW, cW, rfl, hcW, hrW⟩ := hlaid.buf.slice
      rw [← HCB.out] at hrW
      clear hlaid
      have hrm := hr.below hbW
      go_wp2_with fail
      refine (compact_any (X : Int) (by omega) h1 _ wr.heap.size (Buf.new wr wr.heap.size 5 #[.int .u8 121, .int .u8 122] (2, 3) (Nat.le_refl _) (by unfold maxLen; simp)) (by simp) (by simp)).mono ?_
      rintro e w4 ⟨vb, rfl, hl4⟩
      rw [Int.toNat_natCast, HCS.out] at hl4
      have hb4 : Below wr.heap.size wr w4 := ((Below.refl _ _).alloc (Nat.le_refl _) _).trans (hl4.below (Buf.new wr wr.heap.size 5 #[.int .u8 121, .int .u8 122] (2, 3) (Nat.le_refl _) (by unfold maxLen; simp)) (by simp))
      obtain ⟨Ab, cb, rfl, hcb, hrb⟩ := hl4.buf.slice
      have hrb' : Rd w4 w4.heap.size Ab (2 + (1 + 4)) (bys (121 :: 122 :: M.compB X)) := hrb
      clear hrb hl4
      have hq1 := conv_of cb hrb'
      have hrW4 := hrW.below hb4
      have hq2 := conv_of cW hrW4
      have hbw4 : Below w.heap.size w w4 := hbW.trans (hb4.mono hbW.size)
      have hrm4 := hr.below hbw4
      have hss : ((strB (M.compB X)).size : Int) ≤ 8388608 := by rw [strB_size, M.compB_len, HCS.out]; omega
      have heq : strB (121 :: 122 :: M.compB X) = ⟨#[121, 122]⟩ ++ strB (M.compB X) := (strB_app [121, 122] (M.compB X)).symm
      rw [heq] at hq1
      clear heq
      generalize hst : strB (M.compB X) = st at *
      have Hst := Lib.hid hst
      clear hst
      have hB5 := Buf.new w4 w4.heap.size 5 #[] (0, 0) (Nat.le_refl _) (by unfold maxLen; simp)
      have hrW5 := hrW4.alloc hb4.size (.cells #[] 5)
      have hn' : n ≤ 300 := by omega
      go_wp2_with (at_builtin; refine wpList_append_buf _ rfl (.tmp 56) (.tmp 57) 23 rfl w4.heap.size 5 i0 (.int .u8 0) 1 Try.underlying23 hi hz0 hz1 hz2 rfl rfl hB5 rfl hrW5 (bys_one _) ?c1 ?c2 (by simp) ?c3)
      case c1 => unfold maxLen; simp
      case c2 => simp
      case c3 =>
        intro v5 w5 r1 r2 r3
        clear hq1 hq2
        have hl5 : Laid (w4.alloc (.cells #[] 5)) w4.heap.size (.slice (some ⟨w4.heap.size, 0, none⟩) 0 0) w5 v5 (1 + 4) (bys (M.compB X)) := ⟨by simpa using r1, r2, by simpa using r3⟩
        clear r1 r2 r3
        have hb5 : Below w4.heap.size w4 w5 := ((Below.refl _ _).alloc (Nat.le_refl _) _).trans (hl5.below hB5 (by simp))
        have hrm5 := hrm4.below (hb5.mono hbw4.size)
        have hw5 : w4.heap.size ≤ w5.heap.size := hb5.size
        go_wp2_with (at_builtin; refine wpList_append_buf _ rfl (.tmp 58) (.tmp 59) 23 rfl w4.heap.size 5 i0 (.int .u8 0) 1 Try.underlying23 hi hz0 hz1 hz2 rfl rfl hl5.buf rfl hrm5 (bys_one _) ?d1 ?d2 hw5 ?d3)
        case d1 => unfold maxLen; omega
        case d2 => omega
        case d3 =>
          intro v6 w6 r1 r2 r3
          have hl6 := hl5.trans ⟨r1, r2, r3⟩
          clear r1 r2 r3
          have hb6 : Below w4.heap.size w4 w6 := ((Below.refl _ _).alloc (Nat.le_refl _) _).trans (hl6.below hB5 (by simp))
          have hbw6 : Below w.heap.size w w6 := hbw4.trans (hb6.mono hbw4.size)
          obtain ⟨A6, c6, rfl, hc6, hr6⟩ := hl6.buf.slice
          rw [← bys_app] at hr6
          have hc6m : (c6 : Int) ≤ 9223372036854775807 := by
            have := hl6.buf.cap_le
            simp [maxLen] at this
            omega
          clear hl6 hl5 hrm5 hrW5
          go_wp2_with fail
          refine (expand_any A6 _ c6 (M.compB X ++ bs) w6 _ hr6 ?e1 (by omega) hc6 hc6m).mono ?_
          case e1 =>
            intro y hy
            rcases List.mem_append.1 hy with hy | hy
            · exact M.compB_lt X y hy
            · exact hb y hy
          rintro e w7 ⟨rfl, rfl⟩
          rw [HXE.out, HXK.out, HXN.out]
          go_wp2
          go_ret
          exact ⟨by simp, hbw6⟩

set_option maxHeartbeats 1000000 in
set_option maxRecDepth 100000 in
theorem comps_8 (X : Nat) (h1 : (X : Int) ≤ 18446744073709551615) (q1 : (4294967296 : Int) ≤ (X : Int)) (hcs : M.cs X = 8) (hcb : M.compB X = 255 :: M.leB X 8) (A : Option Addr) (n c : Nat) (bs : List Nat) (w : World) (hr : Rd w w.heap.size A n (bys bs)) (hb : ∀ c ∈ bs, c < 256) (h300 : (n : Int) ≤ 300) (hc : n ≤ c)
    (hxe : M.xe (M.compB X ++ bs) = 0) (hxk : M.xk (M.compB X ++ bs) = 1 + 8) (hxn : M.xnum (M.compB X ++ bs) = X) :
    Calls Try.prog 5 #[.int .u64 (X : Int), .slice A n c] w fun e w' => e = .returned (.bool true) ∧ Below w.heap.size w w' := by
  obtain ⟨i0, hi, hz0, hz1, hz2⟩ := info_parts Try.info5
  have hd : decide (300 < (n : Int)) = false := by simp; omega
  have q0 : (253 : Int) ≤ (X : Int) := by omega
  have q2 : (65536 : Int) ≤ (X : Int) := by omega
  have kc := fun (w : World) (C : Array Value) (n c : Nat) => Lib.run_convert_bytes_const (P := Try.prog) w 23 5 C n c Try.underlying23 Try.underlying5
  have HCS := Lib.hid hcs
  have HCB := Lib.hid hcb
  have HXE := Lib.hid hxe
  have HXK := Lib.hid hxk
  have HXN := Lib.hid hxn
  clear hcs hcb hxe hxk hxn
  go_enter Try.func5, Try.ntmps5
  go_wp2_with fail
  refine (compact300 _).mono ?_
  rintro e w1 ⟨A1, c1, rfl, hcv, hb1⟩
  go_wp2_with fail
  clear hcv
  have hb0 := Buf.new w1 w1.heap.size 5 #[.int .u8 255] (0, 0) (Nat.le_refl _) (by unfold maxLen; simp)
  have hal : Below w.heap.size w (w1.alloc (.cells #[.int .u8 255] 5)) := hb1.alloc hb1.size _
  go_loopg [7, 8, 9] 8 (fun k d y i wr => ∃ j, k = 8 - j ∧ j ≤ 8 ∧ i = .int .i64 j ∧ y = .int .u64 ((X / 256 ^ j : Nat) : Int) ∧ Laid (w1.alloc (.cells #[.int .u8 255] 5)) w1.heap.size (.slice (some ⟨w1.heap.size, 0, none⟩) 1 1) wr d (1 + j) (bys (255 :: M.leB X j)))
  case atStart => exact ⟨0, rfl, Nat.zero_le _, rfl, by simp, Laid.refl hb0⟩
  case round =>
    obtain ⟨j, hk, hj, rfl, rfl, hlaid⟩ := hrel
    have hw1 : w1.heap.size ≤ wr.heap.size := by have := hlaid.grown.size; simp at this; omega
    have hK := Lib.hid hk
    clear hk
    by_cases hlt : j < 8
    · have hH := Lib.hid (M.leB_succ X j)
      have hD := Lib.hid (show X / 256 ^ (j + 1) = X / 256 ^ j / 256 by rw [Nat.pow_succ, Nat.div_div_eq_div_mul])
      have hYb : ((X / 256 ^ j : Nat) : Int) ≤ 18446744073709551615 := by
        have := Nat.div_le_self X (256 ^ j)
        omega
      generalize hY : X / 256 ^ j = Y at *
      have HY := Lib.hid hY
      clear hY
      have hlt' : (j : Int) < 8 := by omega
      go_wp2_with (at_builtin; refine wpList_append_one _ rfl (.tmp 37) (.tmp 41) 23 rfl w1.heap.size 5 i0 (.int .u8 0) 1 Try.underlying23 hi hz0 hz1 hz2 rfl rfl hlaid.buf rfl rfl ?b1 ?b2 hw1 ?next)
      case b1 => unfold maxLen; omega
      case b2 => omega
      case next =>
        intro v' w' r1 r2 r3
        have hl2 := hlaid.trans ⟨r1, r2, r3⟩
        clear r1 r2 r3
        go_wp2
        go_roundg (8 - (j + 1))
        case measure => have := hK.out; omega
        case rel =>
          refine ⟨j + 1, rfl, by omega, by go_num, ?_, ?_⟩
          · rw [hD.out]; simp
          · rw [hH.out]
            have e4 : ((Y : Int) % 256) = ((Y % 256 : Nat) : Int) := by omega
            rw [e4] at hl2
            have e5 : bys (255 :: (M.leB X j ++ [Y % 256])) = bys (255 :: M.leB X j) ++ [.int .u8 ((Y % 256 : Nat) : Int)] := by simp [bys]
            rw [e5, ← Nat.add_assoc]
            exact hl2
    · have hje : j = 8 := by omega
      subst hje
      clear hlt hj hK
      have hbW : Below w.heap.size w wr := hal.trans ((hlaid.below hb0 (by simp)).mono hb1.size)
      obtain ⟨AW, cW, rfl, hcW, hrW⟩ := hlaid.buf.slice
      rw [← HCB.out] at hrW
      clear hlaid
      have hrm := hr.below hbW
      go_wp2_with fail
      refine (compact_any (X : Int) (by omega) h1 _ wr.heap.size (Buf.new wr wr.heap.size 5 #[.int .u8 121, .int .u8 122] (2, 3) (Nat.le_refl _) (by unfold maxLen; simp)) (by simp) (by simp)).mono ?_
      rintro e w4 ⟨vb, rfl, hl4⟩
      rw [Int.toNat_natCast, HCS.out] at hl4
      have hb4 : Below wr.heap.size wr w4 := ((Below.refl _ _).alloc (Nat.le_refl _) _).trans (hl4.below (Buf.new wr wr.heap.size 5 #[.int .u8 121, .int .u8 122] (2, 3) (Nat.le_refl _) (by unfold maxLen; simp)) (by simp))
      obtain ⟨Ab, cb, rfl, hcb, hrb⟩ := hl4.buf.slice
      have hrb' : Rd w4 w4.heap.size Ab (2 + (1 + 8)) (bys (121 :: 122 :: M.compB X)) := hrb
      clear hrb hl4
      have hq1 := conv_of cb hrb'
      have hrW4 := hrW.below hb4
      have hq2 := conv_of cW hrW4
      have hbw4 : Below w.heap.size w w4 := hbW.trans (hb4.mono hbW.size)
      have hrm4 := hr.below hbw4
      have hss : ((strB (M.compB X)).size : Int) ≤ 8388608 := by rw [strB_size, M.compB_len, HCS.out]; omega
      have heq : strB (121 :: 122 :: M.compB X) = ⟨#[121, 122]⟩ ++ strB (M.compB X) := (strB_app [121, 122] (M.compB X)).symm
      rw [heq] at hq1
      clear heq
      generalize hst : strB (M.compB X) = st at *
      have Hst := Lib.hid hst
      clear hst
      have hB5 := Buf.new w4 w4.heap.size 5 #[] (0, 0) (Nat.le_refl _) (by unfold maxLen; simp)
      have hrW5 := hrW4.alloc hb4.size (.cells #[] 5)
      have hn' : n ≤ 300 := by omega
      go_wp2_with (at_builtin; refine wpList_append_buf _ rfl (.tmp 56) (.tmp 57) 23 rfl w4.heap.size 5 i0 (.int .u8 0) 1 Try.underlying23 hi hz0 hz1 hz2 rfl rfl hB5 rfl hrW5 (bys_one _) ?c1 ?c2 (by simp) ?c3)
      case c1 => unfold maxLen; simp
      case c2 => simp
      case c3 =>
        intro v5 w5 r1 r2 r3
        clear hq1 hq2
        have hl5 : Laid (w4.alloc (.cells #[] 5)) w4.heap.size (.slice (some ⟨w4.heap.size, 0, none⟩) 0 0) w5 v5 (1 + 8) (bys (M.compB X)) := ⟨by simpa using r1, r2, by simpa using r3⟩
        clear r1 r2 r3
        have hb5 : Below w4.heap.size w4 w5 := ((Below.refl _ _).alloc (Nat.le_refl _) _).trans (hl5.below hB5 (by simp))
        have hrm5 := hrm4.below (hb5.mono hbw4.size)
        have hw5 : w4.heap.size ≤ w5.heap.size := hb5.size
        go_wp2_with (at_builtin; refine wpList_append_buf _ rfl (.tmp 58) (.tmp 59) 23 rfl w4.heap.size 5 i0 (.int .u8 0) 1 Try.underlying23 hi hz0 hz1 hz2 rfl rfl hl5.buf rfl hrm5 (bys_one _) ?d1 ?d2 hw5 ?d3)
        case d1 => unfold maxLen; omega
        case d2 => omega
        case d3 =>
          intro v6 w6 r1 r2 r3
          have hl6 := hl5.trans ⟨r1, r2, r3⟩
          clear r1 r2 r3
          have hb6 : Below w4.heap.size w4 w6 := ((Below.refl _ _).alloc (Nat.le_refl _) _).trans (hl6.below hB5 (by simp))
          have hbw6 : Below w.heap.size w w6 := hbw4.trans (hb6.mono hbw4.size)
          obtain ⟨A6, c6, rfl, hc6, hr6⟩ := hl6.buf.slice
          rw [← bys_app] at hr6
          have hc6m : (c6 : Int) ≤ 9223372036854775807 := by
            have := hl6.buf.cap_le
            simp [maxLen] at this
            omega
          clear hl6 hl5 hrm5 hrW5
          go_wp2_with fail
          refine (expand_any A6 _ c6 (M.compB X ++ bs) w6 _ hr6 ?e1 (by omega) hc6 hc6m).mono ?_
          case e1 =>
            intro y hy
            rcases List.mem_append.1 hy with hy | hy
            · exact M.compB_lt X y hy
            · exact hb y hy
          rintro e w7 ⟨rfl, rfl⟩
          rw [HXE.out, HXK.out, HXN.out]
          go_wp2
          go_ret
          exact ⟨by simp, hbw6⟩


theorem comp_facts (X : Nat) (h1 : (X : Int) ≤ 18446744073709551615) (bs : List Nat) :
    M.xe (M.compB X ++ bs) = 0 ∧ M.xk (M.compB X ++ bs) = 1 + M.cs X ∧ M.xnum (M.compB X ++ bs) = X := by
  have hl := M.compB_len X
  have h0 : (M.compB X ++ bs).getD 0 0 = M.sg X := rfl
  have hdrop : (M.compB X ++ bs).drop 1 = M.leB X (M.cs X) ++ bs := rfl
  have hxs : M.xs (M.sg X) = M.cs X := by
    unfold M.xs M.sg M.cs
    by_cases c1 : X < 253
    · rw [if_pos c1, if_pos c1, if_neg (by omega), if_neg (by omega), if_neg (by omega)]
    · by_cases c2 : X ≤ 65535
      · rw [if_neg c1, if_neg c1, if_pos c2, if_pos c2]; rfl
      · by_cases c3 : X ≤ 4294967295
        · rw [if_neg c1, if_neg c1, if_neg c2, if_neg c2, if_pos c3, if_pos c3]; rfl
        · rw [if_neg c1, if_neg c1, if_neg c2, if_neg c2, if_neg c3, if_neg c3]; rfl
  have hlt : M.cs X ≠ 0 → X < 256 ^ M.cs X ∧ M.xl (M.sg X) ≤ X := by
    unfold M.cs M.xl M.sg
    by_cases c1 : X < 253
    · rw [if_pos c1]; intro h; exact absurd rfl h
    · by_cases c2 : X ≤ 65535
      · rw [if_neg c1, if_neg c1, if_pos c2, if_pos c2]; intro _; simp; omega
      · by_cases c3 : X ≤ 4294967295
        · rw [if_neg c1, if_neg c1, if_neg c2, if_neg c2, if_pos c3, if_pos c3]; intro _; simp; omega
        · rw [if_neg c1, if_neg c1, if_neg c2, if_neg c2, if_neg c3, if_neg c3]; intro _; simp; omega
  have hsg : M.cs X = 0 → M.sg X = X := by
    unfold M.cs M.sg
    by_cases c1 : X < 253
    · rw [if_pos c1, if_pos c1]; intro _; rfl
    · by_cases c2 : X ≤ 65535
      · rw [if_neg c1, if_pos c2]; intro h; cases h
      · by_cases c3 : X ≤ 4294967295
        · rw [if_neg c1, if_neg c2, if_pos c3]; intro h; cases h
        · rw [if_neg c1, if_neg c2, if_neg c3]; intro h; cases h
  have hxn : M.xn (M.compB X ++ bs) = X := by
    unfold M.xn
    rw [h0, hxs, hdrop]
    by_cases hz : M.cs X = 0
    · rw [if_pos hz]; exact hsg hz
    · rw [if_neg hz, M.lv_leB]; exact Nat.mod_eq_of_lt (hlt hz).1
  have he : M.xe (M.compB X ++ bs) = 0 := by
    unfold M.xe
    rw [h0, hxs, hxn, if_neg (by rw [List.length_append, hl]; omega), if_neg]
    rintro ⟨hz, h2⟩
    have := (hlt hz).2
    omega
  refine ⟨he, ?_, ?_⟩
  · unfold M.xk; rw [if_pos he, h0, hxs]
  · unfold M.xnum; rw [if_pos he, hxn]

theorem comps_walk (X : Nat) (h1 : (X : Int) ≤ 18446744073709551615) (A : Option Addr) (n c : Nat) (bs : List Nat) (w : World) (hr : Rd w w.heap.size A n (bys bs)) (hb : ∀ c ∈ bs, c < 256) (h300 : (n : Int) ≤ 300) (hc : n ≤ c) :
    Calls Try.prog 5 #[.int .u64 (X : Int), .slice A n c] w fun e w' => e = .returned (.bool true) ∧ Below w.heap.size w w' := by
  obtain ⟨f1, f2, f3⟩ := comp_facts X h1 bs
  by_cases c1 : X < 253
  · have e1 : M.cs X = 0 := by unfold M.cs; rw [if_pos c1]
    have e2 : M.compB X = X :: M.leB X 0 := by unfold M.compB M.sg; rw [e1, if_pos c1]
    rw [e1] at f2
    exact comps_0 X h1 (by omega) e1 e2 A n c bs w hr hb h300 hc f1 f2 f3
  · by_cases c2 : X ≤ 65535
    · have e1 : M.cs X = 2 := by unfold M.cs; rw [if_neg c1, if_pos c2]
      have e2 : M.compB X = 253 :: M.leB X 2 := by unfold M.compB M.sg; rw [e1, if_neg c1, if_pos c2]
      rw [e1] at f2
      exact comps_2 X h1 (by omega) (by omega) e1 e2 A n c bs w hr hb h300 hc f1 f2 f3
    · by_cases c3 : X ≤ 4294967295
      · have e1 : M.cs X = 4 := by unfold M.cs; rw [if_neg c1, if_neg c2, if_pos c3]
        have e2 : M.compB X = 254 :: M.leB X 4 := by unfold M.compB M.sg; rw [e1, if_neg c1, if_neg c2, if_pos c3]
        rw [e1] at f2
        exact comps_4 X h1 (by omega) (by omega) e1 e2 A n c bs w hr hb h300 hc f1 f2 f3
      · have e1 : M.cs X = 8 := by unfold M.cs; rw [if_neg c1, if_neg c2, if_neg c3]
        have e2 : M.compB X = 255 :: M.leB X 8 := by unfold M.compB M.sg; rw [e1, if_neg c1, if_neg c2, if_neg c3]
        rw [e1] at f2
        exact comps_8 X h1 (by omega) e1 e2 A n c bs w hr hb h300 hc f1 f2 f3
end Go.Proofs.Ytkbdmbefhndlcaa
