/- Walks: num.Compact, expandBehind, Expand. -/
import Derived.Test.YtkdkihacpjhgmaaNL
import Derived.Test.YtkdkihacpjhgmaaOpw
namespace Go.Proofs.Ytkdkihacpjhgmaa
set_option linter.unusedSimpArgs false
set_option linter.unusedVariables false
open Go.RowKit

theorem kk2 : kk 2 = 2 := by decide
theorem kk4 : kk 4 = 4 := by decide
theorem kk8 : kk 8 = 8 := by decide

set_option maxHeartbeats 400000 in
set_option maxRecDepth 100000 in
theorem compact_any (x : Int) (h0 : 0 ≤ x) (h1 : x ≤ 18446744073709551615) (w : World) (base : Nat) {v : Value} {n : Nat} {xs : List Value} (hbuf : Buf w base v n xs) (hn : n ≤ 999999999) (hbase : base ≤ w.heap.size) :
    Calls Try.prog 46 #[v, .int .u64 x] w fun e w' => ∃ v', e = .returned v' ∧ Laid w base v w' v' (n + (1 + M.cs x.toNat)) (xs ++ bys (M.compB x.toNat)) := by
  obtain ⟨i0, hi, hz0, hz1, hz2⟩ := info_parts Try.info5
  obtain ⟨X, rfl⟩ := Int.eq_ofNat_of_zero_le h0
  rw [Int.toNat_natCast]
  by_cases c1 : X < 253
  · have e1 : M.cs X = 0 := by unfold M.cs; rw [if_pos c1]
    have e2 : M.compB X = [X] := by unfold M.compB M.sg; rw [e1, if_pos c1]; rfl
    rw [e1, e2]
    clear e1 e2
    have c1' : (X : Int) < 253 := by omega
    have c2' : (X : Int) % 256 = X := by omega
    go_enter Try.func46, Try.ntmps46
    go_wp2_with (at_builtin; refine wpList_append_one _ rfl (.tmp 8) (.tmp 11) 27 rfl base 5 i0 (.int .u8 0) 1 Try.underlying27 hi hz0 hz1 hz2 rfl rfl hbuf rfl rfl ?b1 ?b2 hbase ?next)
    case b1 => unfold maxLen; omega
    case b2 => omega
    case next =>
      intro v' w' r1 r2 r3
      go_wp2
      go_ret
      exact ⟨_, rfl, ⟨r1, r2, r3⟩⟩
  · have c1' : ¬ (X : Int) < 253 := by omega
    have c1d : decide ((X : Int) < 253) = false := by simp; omega
    by_cases c2 : X ≤ 65535
    · have e1 : M.cs X = 2 := by unfold M.cs; rw [if_neg c1, if_pos c2]
      have e2 : M.compB X = 253 :: M.leB X 2 := by unfold M.compB M.sg; rw [e1, if_neg c1, if_pos c2]
      rw [e1, e2]
      clear e1 e2
      have c2' : (X : Int) ≤ 65535 := by omega
      go_enter Try.func46, Try.ntmps46
      go_wp2_with (at_builtin; refine wpList_append_one _ rfl (.tmp 16) (.tmp 17) 27 rfl base 5 i0 (.int .u8 0) 1 Try.underlying27 hi hz0 hz1 hz2 rfl rfl hbuf rfl rfl ?b1 ?b2 hbase ?next)
      case b1 => unfold maxLen; omega
      case b2 => omega
      case next =>
        intro v' w' r1 r2 r3
        have hl : Laid w base v w' v' (n + 1) (xs ++ bys [253]) := ⟨r1, r2, r3⟩
        clear r1 r2 r3
        go_wp2_with fail
        refine (putLittle_any (X : Int) (by omega) h1 2 w' base hl.buf (by omega) (Nat.le_trans hbase hl.grown.size)).mono ?_
        rintro e w2 ⟨v2, rfl, hl2⟩
        have hl3 := hl.trans hl2
        rw [kk2, Int.toNat_natCast, List.append_assoc, Nat.add_assoc] at hl3
        clear hl hl2
        go_wp2
        go_ret
        exact ⟨_, rfl, hl3⟩
    · have c2' : ¬ (X : Int) ≤ 65535 := by omega
      have c2d : decide ((X : Int) ≤ 65535) = false := by simp; omega
      by_cases c3 : X ≤ 4294967295
      · have e1 : M.cs X = 4 := by unfold M.cs; rw [if_neg c1, if_neg c2, if_pos c3]
        have e2 : M.compB X = 254 :: M.leB X 4 := by unfold M.compB M.sg; rw [e1, if_neg c1, if_neg c2, if_pos c3]
        rw [e1, e2]
        clear e1 e2
        have c3' : (X : Int) ≤ 4294967295 := by omega
        have C3 := Lib.hid c3
        clear c3
        go_enter Try.func46, Try.ntmps46
        go_wp2_with (at_builtin; refine wpList_append_one _ rfl (.tmp 24) (.tmp 25) 27 rfl base 5 i0 (.int .u8 0) 1 Try.underlying27 hi hz0 hz1 hz2 rfl rfl hbuf rfl rfl ?b1 ?b2 hbase ?next)
        case b1 => unfold maxLen; omega
        case b2 => omega
        case next =>
          intro v' w' r1 r2 r3
          have hl : Laid w base v w' v' (n + 1) (xs ++ bys [254]) := ⟨r1, r2, r3⟩
          clear r1 r2 r3
          go_wp2_with fail
          refine (putLittle_any (X : Int) (by omega) h1 4 w' base hl.buf (by omega) (Nat.le_trans hbase hl.grown.size)).mono ?_
          rintro e w2 ⟨v2, rfl, hl2⟩
          have hl3 := hl.trans hl2
          rw [kk4, Int.toNat_natCast, List.append_assoc, Nat.add_assoc] at hl3
          clear hl hl2
          go_wp2
          go_ret
          exact ⟨_, rfl, hl3⟩
      · have e1 : M.cs X = 8 := by unfold M.cs; rw [if_neg c1, if_neg c2, if_neg c3]
        have e2 : M.compB X = 255 :: M.leB X 8 := by unfold M.compB M.sg; rw [e1, if_neg c1, if_neg c2, if_neg c3]
        rw [e1, e2]
        clear e1 e2
        have c3' : ¬ (X : Int) ≤ 4294967295 := by omega
        have c3d : decide ((X : Int) ≤ 4294967295) = false := by simp; omega
        have C3 := Lib.hid c3
        clear c3
        go_enter Try.func46, Try.ntmps46
        go_wp2_with (at_builtin; refine wpList_append_one _ rfl (.tmp 29) (.tmp 30) 27 rfl base 5 i0 (.int .u8 0) 1 Try.underlying27 hi hz0 hz1 hz2 rfl rfl hbuf rfl rfl ?b1 ?b2 hbase ?next)
        case b1 => unfold maxLen; omega
        case b2 => omega
        case next =>
          intro v' w' r1 r2 r3
          have hl : Laid w base v w' v' (n + 1) (xs ++ bys [255]) := ⟨r1, r2, r3⟩
          clear r1 r2 r3
          go_wp2_with fail
          refine (putLittle_any (X : Int) (by omega) h1 8 w' base hl.buf (by omega) (Nat.le_trans hbase hl.grown.size)).mono ?_
          rintro e w2 ⟨v2, rfl, hl2⟩
          have hl3 := hl.trans hl2
          rw [kk8, Int.toNat_natCast, List.append_assoc, Nat.add_assoc] at hl3
          clear hl hl2
          go_wp2
          go_ret
          exact ⟨_, rfl, hl3⟩

/-- What stands behind a sign. -/
theorem behind_short (A : Option Addr) (n c : Nat) (S : Nat) (least : Int) (w : World) (hS : (n : Int) < (S : Int)) :
    Calls Try.prog 53 #[.slice A n c, .int .i64 (S : Int), .int .u64 least] w fun e w' => e = .returned (.tuple #[.int .u64 0, .int .i64 0, .int .i64 8]) ∧ w = w' := by
  go_enter Try.func53, Try.ntmps53
  go_wp2
  go_ret3
  exact ⟨rfl, rfl⟩

set_option maxHeartbeats 400000 in
set_option maxRecDepth 100000 in
theorem behind_any (A : Option Addr) (n c : Nat) (bs : List Nat) (S : Nat) (least : Nat) (w : World) (B : Nat) (hr : Rd w B A n (bys bs)) (hb : ∀ c ∈ bs, c < 256) (hn : n ≤ 1000000000) (hc : n ≤ c) (hS : S ≤ n) (hS8 : S ≤ 8) (hl : (least : Int) ≤ 4294967296) :
    Calls Try.prog 53 #[.slice A n c, .int .i64 (S : Int), .int .u64 (least : Int)] w fun e w' =>
      e = .returned (.tuple (if M.lv bs S < least then #[.int .u64 0, .int .i64 0, .int .i64 2] else #[.int .u64 (M.lv bs S : Int), .int .i64 ((1 + S : Nat) : Int), .int .i64 0])) ∧ w = w' := by
  have hS' : ¬ (n : Int) < (S : Int) := by omega
  have hSd : decide ((n : Int) < (S : Int)) = false := by simp; omega
  have hSc : (S : Int) ≤ (c : Int) := by omega
  have hrt := hr.take S hS
  rw [← bys_take] at hrt
  have e8 : min S 8 = S := by omega
  have hlv : M.lv (bs.take S) S = M.lv bs S := by
    rw [M.lv_of (bs.take S) (M.lv bs S) S (fun j hj => by
      rw [M.lv_digit bs hb S j hj]
      simp [List.getD, List.getElem?_take, hj])]
    exact Nat.mod_eq_of_lt (M.lv_lt bs hb S)
  have Hlv := Lib.hid hlv
  have H8 := Lib.hid e8
  clear hlv e8
  by_cases hlt : M.lv bs S < least
  · rw [if_pos hlt]
    have hlt' : ((M.lv bs S : Nat) : Int) < (least : Int) := by omega
    clear hlt
    generalize M.lv bs S = lv at *
    go_enter Try.func53, Try.ntmps53
    go_wp2_with fail
    refine (little_any A S c (bs.take S) w B hrt (fun y hy => hb y (List.mem_of_mem_take hy)) (by omega)).mono ?_
    rintro e w2 ⟨rfl, rfl⟩
    rw [H8.out, Hlv.out]
    go_wp2
    go_ret3
    exact ⟨rfl, rfl⟩
  · rw [if_neg hlt]
    have hlt' : decide (((M.lv bs S : Nat) : Int) < (least : Int)) = false := by simp; omega
    have hlt2 : (least : Int) ≤ ((M.lv bs S : Nat) : Int) := by omega
    clear hlt
    generalize M.lv bs S = lv at *
    go_enter Try.func53, Try.ntmps53
    go_wp2_with fail
    refine (little_any A S c (bs.take S) w B hrt (fun y hy => hb y (List.mem_of_mem_take hy)) (by omega)).mono ?_
    rintro e w2 ⟨rfl, rfl⟩
    rw [H8.out, Hlv.out]
    go_wp2
    go_ret3
    exact ⟨by simp, rfl⟩

set_option maxHeartbeats 1000000 in
set_option maxRecDepth 100000 in
theorem expand_any (A : Option Addr) (n c : Nat) (bs : List Nat) (w : World) (B : Nat) (hr : Rd w B A n (bys bs)) (hb : ∀ c ∈ bs, c < 256) (hn : n ≤ 1000000000) (hc : n ≤ c) (hcm : (c : Int) ≤ 9223372036854775807) :
    Calls Try.prog 49 #[.slice A n c] w fun e w' => e = .returned (.tuple #[.int .u64 (M.xnum bs : Int), .int .i64 (M.xk bs : Int), .int .i64 (M.xe bs : Int)]) ∧ w = w' := by
  have hbl : bs.length = n := by have := hr.1; rwa [bys_len] at this
  rcases Nat.eq_zero_or_pos n with hn0 | hn0
  · subst hn0
    have e1 : M.xe bs = 8 := by unfold M.xe; rw [if_pos (by omega)]
    have e2 : M.xk bs = 0 := by unfold M.xk; rw [if_neg (by rw [e1]; decide)]
    have e3 : M.xnum bs = 0 := by unfold M.xnum; rw [if_neg (by rw [e1]; decide)]
    rw [e1, e2, e3]
    clear e1 e2 e3 hbl
    go_enter Try.func49, Try.ntmps49
    go_wp2
    go_ret3
    exact ⟨rfl, rfl⟩
  · have hn1 : ((n : Int) == 0) = false := beq_eq_false_iff_ne.2 (by omega)
    have hn2 : (0 : Int) < (n : Int) := by omega
    have hn3 : (1 : Int) ≤ (n : Int) := by omega
    have hc1 : (1 : Int) ≤ (c : Int) := by omega
    have hc2 : (n : Int) ≤ (c : Int) := by omega
    have hdr := hr.drop 1 c (by omega) hc
    obtain ⟨g, off, u, rfl, hgB, hu, hcell⟩ := hr.at_ (k := 0) hn0
    rw [bys_get bs 0 (by omega)] at hu
    injection hu with hu
    subst hu
    rw [Nat.add_zero] at hcell
    have hcb := getD_lt hb 0
    have hcase : bs.getD 0 0 = 253 ∨ bs.getD 0 0 = 254 ∨ bs.getD 0 0 = 255 ∨ bs.getD 0 0 < 253 := by omega
    rcases hcase with hb0 | hb0 | hb0 | hb0
    · -- 253
      have hs : M.xs (bs.getD 0 0) = 2 := by unfold M.xs; rw [if_pos hb0]
      have hx : M.xl (bs.getD 0 0) = 253 := by unfold M.xl; rw [if_pos hb0]
      by_cases hsh : n < 1 + 2
      · have e1 : M.xe bs = 8 := by unfold M.xe; rw [hs, if_pos (by omega)]
        have e2 : M.xk bs = 0 := by unfold M.xk; rw [if_neg (by rw [e1]; decide)]
        have e3 : M.xnum bs = 0 := by unfold M.xnum; rw [if_neg (by rw [e1]; decide)]
        rw [e1, e2, e3]
        rw [hb0] at hcell
        clear e1 e2 e3 hbl hs hx hdr hb0
        go_enter Try.func49, Try.ntmps49
        go_wp2_with fail
        all_goals
          refine (behind_short _ _ _ 2 253 _ (by omega)).mono ?_
          rintro e w2 ⟨rfl, rfl⟩
          go_wp2
          go_ret3
          exact ⟨rfl, rfl⟩
      · have hd1 : ∀ y ∈ bs.drop 1, y < 256 := fun y hy => hb y (List.mem_of_mem_drop hy)
        have hcne : ¬ c = 1 := by omega
        rw [if_neg hcne, ← bys_drop] at hdr
        have hxn : M.xn bs = M.lv (bs.drop 1) 2 := by unfold M.xn; rw [hs, if_neg (by decide)]
        have e1 : M.xe bs = if M.lv (bs.drop 1) 2 < 253 then 2 else 0 := by
          unfold M.xe
          rw [hs, hx, hxn, if_neg (by omega)]
          by_cases hq : M.lv (bs.drop 1) 2 < 253
          · rw [if_pos ⟨by decide, hq⟩, if_pos hq]
          · rw [if_neg (fun h => hq h.2), if_neg hq]
        rw [hb0] at hcell
        have hdr' : Rd w B (some ⟨g, off + 1, none⟩) (n - 1) (bys (bs.drop 1)) := by simpa [Addr.add_lit] using hdr
        have hbe := behind_any (some ⟨g, off + 1, none⟩) (n - 1) (c - 1) (bs.drop 1) 2 253 w B hdr' hd1 (by omega) (by omega) (by omega) (by omega) (by omega)
        by_cases hq : M.lv (bs.drop 1) 2 < 253
        · rw [if_pos hq] at e1 hbe
          have e2 : M.xk bs = 0 := by unfold M.xk; rw [if_neg (by rw [e1]; decide)]
          have e3 : M.xnum bs = 0 := by unfold M.xnum; rw [if_neg (by rw [e1]; decide)]
          rw [e1, e2, e3]
          have HB := Lib.hid hbe
          clear e1 e2 e3 hbl hs hx hb0 hxn hbe hq hdr hdr'
          go_enter Try.func49, Try.ntmps49
          go_wp2_with fail
          refine HB.out.mono ?_
          rintro e w2 ⟨rfl, rfl⟩
          go_wp2
          go_ret3
          exact ⟨rfl, rfl⟩
        · rw [if_neg hq] at e1 hbe
          have e2 : M.xk bs = 1 + 2 := by unfold M.xk; rw [if_pos e1, hs]
          have e3 : M.xnum bs = M.lv (bs.drop 1) 2 := by unfold M.xnum; rw [if_pos e1, hxn]
          rw [e1, e2, e3]
          have HB := Lib.hid hbe
          clear e1 e2 e3 hbl hs hx hb0 hxn hbe hq hdr hdr'
          generalize M.lv (bs.drop 1) 2 = lv at *
          go_enter Try.func49, Try.ntmps49
          go_wp2_with fail
          refine HB.out.mono ?_
          rintro e w2 ⟨rfl, rfl⟩
          go_wp2
          go_ret3
          exact ⟨rfl, rfl⟩
    · -- 254
      have hs : M.xs (bs.getD 0 0) = 4 := by unfold M.xs; rw [if_neg (by omega), if_pos hb0]
      have hx : M.xl (bs.getD 0 0) = 65536 := by unfold M.xl; rw [if_neg (by omega), if_pos hb0]
      by_cases hsh : n < 1 + 4
      · have e1 : M.xe bs = 8 := by unfold M.xe; rw [hs, if_pos (by omega)]
        have e2 : M.xk bs = 0 := by unfold M.xk; rw [if_neg (by rw [e1]; decide)]
        have e3 : M.xnum bs = 0 := by unfold M.xnum; rw [if_neg (by rw [e1]; decide)]
        rw [e1, e2, e3]
        rw [hb0] at hcell
        clear e1 e2 e3 hbl hs hx hdr hb0
        go_enter Try.func49, Try.ntmps49
        go_wp2_with fail
        all_goals
          refine (behind_short _ _ _ 4 65536 _ (by omega)).mono ?_
          rintro e w2 ⟨rfl, rfl⟩
          go_wp2
          go_ret3
          exact ⟨rfl, rfl⟩
      · have hd1 : ∀ y ∈ bs.drop 1, y < 256 := fun y hy => hb y (List.mem_of_mem_drop hy)
        have hcne : ¬ c = 1 := by omega
        rw [if_neg hcne, ← bys_drop] at hdr
        have hxn : M.xn bs = M.lv (bs.drop 1) 4 := by unfold M.xn; rw [hs, if_neg (by decide)]
        have e1 : M.xe bs = if M.lv (bs.drop 1) 4 < 65536 then 2 else 0 := by
          unfold M.xe
          rw [hs, hx, hxn, if_neg (by omega)]
          by_cases hq : M.lv (bs.drop 1) 4 < 65536
          · rw [if_pos ⟨by decide, hq⟩, if_pos hq]
          · rw [if_neg (fun h => hq h.2), if_neg hq]
        rw [hb0] at hcell
        have hdr' : Rd w B (some ⟨g, off + 1, none⟩) (n - 1) (bys (bs.drop 1)) := by simpa [Addr.add_lit] using hdr
        have hbe := behind_any (some ⟨g, off + 1, none⟩) (n - 1) (c - 1) (bs.drop 1) 4 65536 w B hdr' hd1 (by omega) (by omega) (by omega) (by omega) (by omega)
        by_cases hq : M.lv (bs.drop 1) 4 < 65536
        · rw [if_pos hq] at e1 hbe
          have e2 : M.xk bs = 0 := by unfold M.xk; rw [if_neg (by rw [e1]; decide)]
          have e3 : M.xnum bs = 0 := by unfold M.xnum; rw [if_neg (by rw [e1]; decide)]
          rw [e1, e2, e3]
          have HB := Lib.hid hbe
          clear e1 e2 e3 hbl hs hx hb0 hxn hbe hq hdr hdr'
          go_enter Try.func49, Try.ntmps49
          go_wp2_with fail
          refine HB.out.mono ?_
          rintro e w2 ⟨rfl, rfl⟩
          go_wp2
          go_ret3
          exact ⟨rfl, rfl⟩
        · rw [if_neg hq] at e1 hbe
          have e2 : M.xk bs = 1 + 4 := by unfold M.xk; rw [if_pos e1, hs]
          have e3 : M.xnum bs = M.lv (bs.drop 1) 4 := by unfold M.xnum; rw [if_pos e1, hxn]
          rw [e1, e2, e3]
          have HB := Lib.hid hbe
          clear e1 e2 e3 hbl hs hx hb0 hxn hbe hq hdr hdr'
          generalize M.lv (bs.drop 1) 4 = lv at *
          go_enter Try.func49, Try.ntmps49
          go_wp2_with fail
          refine HB.out.mono ?_
          rintro e w2 ⟨rfl, rfl⟩
          go_wp2
          go_ret3
          exact ⟨rfl, rfl⟩
    · -- 255
      have hs : M.xs (bs.getD 0 0) = 8 := by unfold M.xs; rw [if_neg (by omega), if_neg (by omega), if_pos hb0]
      have hx : M.xl (bs.getD 0 0) = 4294967296 := by unfold M.xl; rw [if_neg (by omega), if_neg (by omega)]
      by_cases hsh : n < 1 + 8
      · have e1 : M.xe bs = 8 := by unfold M.xe; rw [hs, if_pos (by omega)]
        have e2 : M.xk bs = 0 := by unfold M.xk; rw [if_neg (by rw [e1]; decide)]
        have e3 : M.xnum bs = 0 := by unfold M.xnum; rw [if_neg (by rw [e1]; decide)]
        rw [e1, e2, e3]
        rw [hb0] at hcell
        clear e1 e2 e3 hbl hs hx hdr hb0
        go_enter Try.func49, Try.ntmps49
        go_wp2_with fail
        all_goals
          refine (behind_short _ _ _ 8 4294967296 _ (by omega)).mono ?_
          rintro e w2 ⟨rfl, rfl⟩
          go_wp2
          go_ret3
          exact ⟨rfl, rfl⟩
      · have hd1 : ∀ y ∈ bs.drop 1, y < 256 := fun y hy => hb y (List.mem_of_mem_drop hy)
        have hcne : ¬ c = 1 := by omega
        rw [if_neg hcne, ← bys_drop] at hdr
        have hxn : M.xn bs = M.lv (bs.drop 1) 8 := by unfold M.xn; rw [hs, if_neg (by decide)]
        have e1 : M.xe bs = if M.lv (bs.drop 1) 8 < 4294967296 then 2 else 0 := by
          unfold M.xe
          rw [hs, hx, hxn, if_neg (by omega)]
          by_cases hq : M.lv (bs.drop 1) 8 < 4294967296
          · rw [if_pos ⟨by decide, hq⟩, if_pos hq]
          · rw [if_neg (fun h => hq h.2), if_neg hq]
        rw [hb0] at hcell
        have hdr' : Rd w B (some ⟨g, off + 1, none⟩) (n - 1) (bys (bs.drop 1)) := by simpa [Addr.add_lit] using hdr
        have hbe := behind_any (some ⟨g, off + 1, none⟩) (n - 1) (c - 1) (bs.drop 1) 8 4294967296 w B hdr' hd1 (by omega) (by omega) (by omega) (by omega) (by omega)
        by_cases hq : M.lv (bs.drop 1) 8 < 4294967296
        · rw [if_pos hq] at e1 hbe
          have e2 : M.xk bs = 0 := by unfold M.xk; rw [if_neg (by rw [e1]; decide)]
          have e3 : M.xnum bs = 0 := by unfold M.xnum; rw [if_neg (by rw [e1]; decide)]
          rw [e1, e2, e3]
          have HB := Lib.hid hbe
          clear e1 e2 e3 hbl hs hx hb0 hxn hbe hq hdr hdr'
          go_enter Try.func49, Try.ntmps49
          go_wp2_with fail
          refine HB.out.mono ?_
          rintro e w2 ⟨rfl, rfl⟩
          go_wp2
          go_ret3
          exact ⟨rfl, rfl⟩
        · rw [if_neg hq] at e1 hbe
          have e2 : M.xk bs = 1 + 8 := by unfold M.xk; rw [if_pos e1, hs]
          have e3 : M.xnum bs = M.lv (bs.drop 1) 8 := by unfold M.xnum; rw [if_pos e1, hxn]
          rw [e1, e2, e3]
          have HB := Lib.hid hbe
          clear e1 e2 e3 hbl hs hx hb0 hxn hbe hq hdr hdr'
          generalize M.lv (bs.drop 1) 8 = lv at *
          go_enter Try.func49, Try.ntmps49
          go_wp2_with fail
          refine HB.out.mono ?_
          rintro e w2 ⟨rfl, rfl⟩
          go_wp2
          go_ret3
          exact ⟨rfl, rfl⟩
    · have hs : M.xs (bs.getD 0 0) = 0 := by unfold M.xs; rw [if_neg (by omega), if_neg (by omega), if_neg (by omega)]
      have hxn : M.xn bs = bs.getD 0 0 := by unfold M.xn; rw [hs, if_pos rfl]
      have e1 : M.xe bs = 0 := by unfold M.xe; rw [hs, if_neg (by omega), if_neg (fun h => h.1 rfl)]
      have e2 : M.xk bs = 1 := by unfold M.xk; rw [if_pos e1, hs]
      have e3 : M.xnum bs = bs.getD 0 0 := by unfold M.xnum; rw [if_pos e1, hxn]
      rw [e1, e2, e3]
      clear e1 e2 e3 hbl hs hxn hdr
      generalize bs.getD 0 0 = cb at *
      have q1 : ((cb : Int) == 253) = false := beq_eq_false_iff_ne.2 (by omega)
      have q2 : ((cb : Int) == 254) = false := beq_eq_false_iff_ne.2 (by omega)
      have q3 : ((cb : Int) == 255) = false := beq_eq_false_iff_ne.2 (by omega)
      go_enter Try.func49, Try.ntmps49
      go_wp2
      go_ret3
      exact ⟨rfl, rfl⟩
end Go.Proofs.Ytkdkihacpjhgmaa
