/- Walks: the law's little, of. -/
import Derived.Test.YtahbhaphodgomabDoorR5
import Derived.Test.YtahbhaphodgomabDoorRMsk
import Derived.Deep.DeepCutAuto
namespace Go.Proofs.YtahbhaphodgomabDoor
set_option linter.unusedSimpArgs false
set_option linter.unusedVariables false
open Go.RowKit

set_option maxHeartbeats 1000000 in
set_option maxRecDepth 100000 in
theorem lit_any (N : Nat) (hN : (N : Int) < 4294967296) (w : World) :
    Calls Tryd.prog 13 #[.int .u32 (N : Int)] w fun e w' => ∃ v, e = .returned v ∧ Buf w' w.heap.size v 4 (bys (M.leB N 4)) ∧ Below w.heap.size w w' := by
  obtain ⟨i0, hi, hz0, hz1, hz2⟩ := info_parts Tryd.info5
  have hb0 := Buf.new w w.heap.size 5 #[] (0, 0) (Nat.le_refl _) (by unfold maxLen; simp)
  have hba : Below w.heap.size w (w.alloc (.cells #[] 5)) := (Below.refl _ _).alloc (Nat.le_refl _) _
  go_enter Tryd.func13, Tryd.ntmps13
  go_wp2_with fail
  go_loopg [0, 3, 4] 4 (fun m x b i wr => ∃ j : Nat, m = 4 - j ∧ j ≤ 4 ∧ i = .int .i64 (j : Int) ∧ x = .int .u32 ((N / 256 ^ j : Nat) : Int) ∧ Buf wr w.heap.size b j (bys (M.leB N j)) ∧ Below w.heap.size w wr)
  case atStart => exact ⟨0, rfl, by omega, rfl, by simp, by simpa [M.leB, bys] using hb0, hba⟩
  case round =>
    obtain ⟨j, hm, hj, rfl, rfl, hbuf, hbw⟩ := hrel
    have HM := Lib.hid hm
    clear hm
    by_cases hlt : j < 4
    · have hlt' : (j : Int) < 4 := by omega
      have hH := Lib.hid (M.leB_succ N j)
      have hle : N / 256 ^ j ≤ N := Nat.div_le_self _ _
      have hDD := Lib.hid (show N / 256 ^ (j + 1) = N / 256 ^ j / 256 by rw [Nat.pow_succ, Nat.div_div_eq_div_mul])
      generalize N / 256 ^ j = Y at *
      have hY : (Y : Int) < 4294967296 := by omega
      go_wp2_with (at_builtin; refine wpList_append_one _ rfl (.tmp 10) (.tmp 14) 22 rfl w.heap.size 5 i0 (.int .u8 0) 1 Tryd.underlying22 hi hz0 hz1 hz2 rfl rfl hbuf rfl rfl ?b1 ?b2 hbw.size ?next)
      case b1 => unfold maxLen; omega
      case b2 => omega
      case next =>
        intro v' w' r1 r2 r3
        have hB := hbw.grown r2 hbw.size (fun k hk => (hbuf.lt k hk).1)
        go_wp2
        go_roundg (4 - (j + 1))
        case measure => have := HM.out; omega
        case rel =>
          refine ⟨j + 1, rfl, by omega, by go_num, ?_, ?_, hB⟩
          · rw [hDD.out]; simp
          · rw [hH.out, bys_app]
            have e : ∀ z : Int, z = (Y : Int) % 256 → [Value.int .u8 z] = bys [Y % 256] := fun z hz => by subst hz; simp [bys]
            first | (rw [← e _ rfl]; exact r1) | (rw [← e _ (by omega)]; exact r1)
    · obtain rfl : j = 4 := by omega
      go_wp2
      go_ret
      exact ⟨_, rfl, hbuf, hbw⟩

theorem Buf.rd {w : World} {base : Nat} {v : Value} {n : Nat} {xs : List Value} (h : Buf w base v n xs) : ∃ A c, v = .slice A n c ∧ n ≤ c ∧ c ≤ maxLen ∧ Rd w w.heap.size A n xs := by
  obtain ⟨A, c, rfl, hc, hr⟩ := h.slice
  exact ⟨A, c, rfl, hc, h.cap_le, hr⟩

/-- The check of some bytes by the reference: Mask of Sum, as four bytes. -/
theorem ck_eq (bs : List Nat) : mk (nt (crcR (nt 0) bs)) = ck bs := rfl
theorem sum_lt (bs : List Nat) (hb : ∀ c ∈ bs, c < 256) : nt (crcR (nt 0) bs) < 4294967296 := nt_lt _ (crcR_lt bs (nt 0) (nt_lt 0 (by omega)) hb)

set_option maxHeartbeats 1000000 in
set_option maxRecDepth 100000 in
theorem of_any (A : Option Addr) (L c : Nat) (d : List Nat) (w : World) (hr : Rd w w.heap.size A L (bys d)) (hd : ∀ c ∈ d, c < 256) (hL : L ≤ 1000000) :
    Calls Tryd.prog 11 #[.slice A L c] w fun e w' => ∃ v, e = .returned v ∧ Buf w' w.heap.size v (12 + L) (bys (recB d)) ∧ Below w.heap.size w w' := by
  obtain ⟨i0, hi, hz0, hz1, hz2⟩ := info_parts Tryd.info5
  have hdl : d.length = L := by have := hr.1; rwa [bys_len] at this
  have HD := Lib.hid hd
  have hs1 := sum_lt (M.leB L 4) (M.leB_lt _ _)
  have hs2 := sum_lt d hd
  have hc1 := ck_lt (M.leB L 4)
  have hc2 := ck_lt d
  clear hd
  go_enter Tryd.func11, Tryd.ntmps11
  go_wp2_with fail
  refine (lit_any L (by omega) w).mono ?_
  rintro e w1 ⟨v1, rfl, hu1, hb1⟩
  have hz1' := hb1.size
  obtain ⟨A1, c1, rfl, hn1, _, hr1⟩ := hu1.rd
  have hb0 := Buf.new w1 w1.heap.size 5 #[] (0, 0) (Nat.le_refl _) (by unfold maxLen; simp)
  have hba : Below w1.heap.size w1 (w1.alloc (.cells #[] 5)) := (Below.refl _ _).alloc (Nat.le_refl _) _
  have hr1a := hr1.below hba
  go_wp2_with (at_builtin; refine wpList_append_buf _ rfl (.tmp 9) (.tmp 10) 22 rfl w1.heap.size 5 i0 (.int .u8 0) 1 Tryd.underlying22 hi hz0 hz1 hz2 rfl rfl hb0 rfl hr1a (bys_one _) ?b1 ?b2 (by simp) ?next)
  case b1 => unfold maxLen; first | omega | simp
  case b2 => first | omega | simp
  case next =>
    intro v2 w2 r1 r2 r3
    have u2 : Buf w2 w1.heap.size v2 4 (bys (M.leB L 4)) := by simpa using r1
    have hB2 : Below w1.heap.size w1 w2 := hba.grown r2 (by simp) (fun k hk => by simp [Value.ownBlock] at hk; omega)
    have hr12 := hr1.below hB2
    have hz2' := hB2.size
    clear r1 r2 r3 hb0 hba hr1a
    go_wp2_with fail
    refine (refsum_any A1 4 c1 (M.leB L 4) w2 (hr12.up hz2') (M.leB_lt _ _) (by omega)).mono ?_
    rintro e w3 ⟨rfl, hb3⟩
    have u3 := u2.below hb3 (fun k hk => (u2.lt k hk).2)
    have hB3 := hB2.trans (hb3.mono hz2')
    go_wp2_with fail
    refine (refmask_any _ (by omega) w3).mono ?_
    rintro e w4 ⟨rfl, hb4⟩
    rw [ck_eq]
    have u4 := u3.below hb4 (fun k hk => (u3.lt k hk).2)
    have hB4 := hB3.trans (hb4.mono hB3.size)
    go_wp2_with fail
    refine (lit_any (ck (M.leB L 4)) (by omega) w4).mono ?_
    rintro e w5 ⟨v5, rfl, hu5, hb5⟩
    have u5 := u4.below hb5 (fun k hk => (u4.lt k hk).2)
    have hB5 := hB4.trans (hb5.mono hB4.size)
    have hz5 := hB5.size
    obtain ⟨A5, c5, rfl, _, _, hr5⟩ := hu5.rd
    clear u2 u3 u4 hb3 hb4 hb5 hB2 hB3 hB4 hr12
    go_wp2_with (at_builtin; refine wpList_append_buf _ rfl (.tmp 12) (.tmp 16) 22 rfl w1.heap.size 5 i0 (.int .u8 0) 1 Tryd.underlying22 hi hz0 hz1 hz2 rfl rfl u5 rfl hr5 (bys_one _) ?b3 ?b4 hz5 ?next2)
    case b3 => unfold maxLen; omega
    case b4 => omega
    case next2 =>
      intro v6 w6 r1 r2 r3
      have hB6 := hB5.grown r2 hz5 (fun k hk => (u5.lt k hk).1)
      have u6 := r1
      have hz6 := hB6.size
      have hB6w := hb1.trans (hB6.mono hz1')
      have hrd6 := hr.below hB6w
      clear r1 r2 r3 u5 hB5
      go_wp2_with fail
      refine (refsum_any A L c d w6 (hrd6.up hB6w.size) HD.out (by omega)).mono ?_
      rintro e w7 ⟨rfl, hb7⟩
      have u7 := u6.below hb7 (fun k hk => (u6.lt k hk).2)
      have hB7 := hB6.trans (hb7.mono hz6)
      go_wp2_with fail
      refine (refmask_any _ (by omega) w7).mono ?_
      rintro e w8 ⟨rfl, hb8⟩
      rw [ck_eq]
      have u8 := u7.below hb8 (fun k hk => (u7.lt k hk).2)
      have hB8 := hB7.trans (hb8.mono hB7.size)
      go_wp2_with fail
      refine (lit_any (ck d) (by omega) w8).mono ?_
      rintro e w9 ⟨v9, rfl, hu9, hb9⟩
      have u9 := u8.below hb9 (fun k hk => (u8.lt k hk).2)
      have hB9 := hB8.trans (hb9.mono hB8.size)
      have hz9 := hB9.size
      obtain ⟨A9, c9, rfl, _, _, hr9⟩ := hu9.rd
      clear u6 u7 u8 hb7 hb8 hb9 hB6 hB7 hB8
      go_wp2_with (at_builtin; refine wpList_append_buf _ rfl (.tmp 18) (.tmp 22) 22 rfl w1.heap.size 5 i0 (.int .u8 0) 1 Tryd.underlying22 hi hz0 hz1 hz2 rfl rfl u9 rfl hr9 (bys_one _) ?b5 ?b6 hz9 ?next3)
      case b5 => unfold maxLen; omega
      case b6 => omega
      case next3 =>
        intro v10 w10 r1 r2 r3
        have hB10 := hB9.grown r2 hz9 (fun k hk => (u9.lt k hk).1)
        have u10 := r1
        have hz10 := hB10.size
        have hB10w := hb1.trans (hB10.mono hz1')
        have hrd10 := hr.below hB10w
        clear r1 r2 r3 u9 hB9
        go_wp2_with (at_builtin; refine wpList_append_buf _ rfl (.tmp 24) (.tmp 25) 22 rfl w1.heap.size 5 i0 (.int .u8 0) 1 Tryd.underlying22 hi hz0 hz1 hz2 rfl rfl u10 rfl hrd10 (bys_one _) ?b7 ?b8 hz10 ?next4)
        case b7 => unfold maxLen; omega
        case b8 => omega
        case next4 =>
          intro v11 w11 r1 r2 r3
          have hB11 := hB10.grown r2 hz10 (fun k hk => (u10.lt k hk).1)
          go_wp2
          go_ret
          refine ⟨v11, rfl, ?_, hb1.trans (hB11.mono hz1')⟩
          have e1 : bys (recB d) = bys (M.leB L 4) ++ bys (M.leB (ck (M.leB L 4)) 4) ++ bys (M.leB (ck d) 4) ++ bys d := by
            simp [recB, hdr, hdl, bys_app]
          rw [e1, show 12 + L = 4 + 4 + 4 + L by omega]
          exact r1.base_le hz1'
end Go.Proofs.YtahbhaphodgomabDoor
