/- Walks of the reference: root. -/
import Derived.Test.YtkokbpifjpmhlaaDoorR2
namespace Go.Proofs.YtkokbpifjpmhlaaDoor
set_option linter.unusedSimpArgs false
set_option linter.unusedVariables false
open Go.RowKit

theorem dw_one (a : List Nat) : ∀ u ∈ dw a, u.oneCell' = true := by
  intro u hu
  simp only [dw, List.mem_map] at hu
  obtain ⟨c, _, rfl⟩ := hu
  rfl
def TOP : Nat := 137438953472
theorem TOP_i : ((TOP : Nat) : Int) = 137438953472 := rfl
def mst (p z : Nat) : List Nat := List.replicate z 0 ++ [p]
theorem mst_val (p z : Nat) : L.val (mst p z) = p * 65536 ^ z := by
  unfold mst
  rw [L.val_app, L.val_zero]
  simp [L.val]
  rw [Nat.mul_comm]
theorem mst_dig (p z : Nat) (h : p < 65536) : L.Dig (mst p z) := by
  intro x hx
  simp [mst] at hx
  omega
theorem mst_len (p z : Nat) : (mst p z).length = z + 1 := by simp [mst]
/-- The only one whose power is just not above. -/
theorem rt_uniq (K M a b : Nat) (hK : 0 < K) (h1 : a ^ K ≤ M) (h2 : M < (a + 1) ^ K) (h3 : b ^ K ≤ M) (h4 : M < (b + 1) ^ K) : a = b := by
  rcases Nat.lt_trichotomy a b with h | h | h
  · have := Nat.pow_le_pow_left (show a + 1 ≤ b by omega) K
    omega
  · exact h
  · have := Nat.pow_le_pow_left (show b + 1 ≤ a by omega) K
    omega


set_option maxHeartbeats 2000000 in
set_option maxRecDepth 100000 in
theorem root2_any (pI : Int) (p r : Nat) (hpI : pI = (p : Int)) (hp : (p : Int) ≤ 1000) (h1 : r ^ 2 ≤ p * 65536 ^ 4) (h2 : p * 65536 ^ 4 < (r + 1) ^ 2) (h3 : p * 65536 ^ 4 < TOP ^ 2) (w : World) :
    Calls Tryd.prog 24 #[.int .u64 pI, .int .i64 2] w fun e w' => e = .returned (.int .u32 ((r : Int) % 4294967296)) ∧ Below w.heap.size w w' := by
  subst hpI
  obtain ⟨i0, hi, hz0, hz1, hz2⟩ := info_parts Tryd.info31
  have HR := Lib.hid (fun (x : Nat) (a1 : x ^ 2 ≤ p * 65536 ^ 4) (a2 : p * 65536 ^ 4 < (x + 1) ^ 2) => rt_uniq 2 _ x r (by omega) a1 a2 h1 h2)
  have hMV := mst_val p 4
  have hMD := mst_dig p 4 (by omega)
  have hML := mst_len p 4
  have H0 := Lib.hid (show (0 : Nat) ^ 2 ≤ p * 65536 ^ 4 from by simp)
  have HT := Lib.hid h3
  rw [← hMV] at HR H0 HT
  clear h1 h2 h3 hMV
  have hMe : bys [] = [] := rfl
  have hbf0 : Buf (w.alloc (.cells #[] 31)) w.heap.size (.slice (some ⟨w.heap.size, 0, none⟩) 0 0) 0 (dw (List.replicate 0 0)) := Buf.new w w.heap.size 31 #[] (0, 0) (Nat.le_refl _) (by unfold maxLen; simp)
  have hb0 : Below w.heap.size w (w.alloc (.cells #[] 31)) := (Below.refl _ _).alloc (Nat.le_refl _) _
  have HMD := Lib.hid hMD
  have HML := Lib.hid hML
  have HMST := Lib.hid (show dw (List.replicate 4 0) ++ [.int .u64 (p : Int)] = dw (mst p 4) by simp [dw, mst])
  clear hMD hML hMe
  generalize mst p 4 = MS at *
  go_enter Tryd.func24, Tryd.ntmps24
  go_wp2_with fail
  go_loopg [5, 6] 4 (fun k v i wr => ∃ j, k = 4 - j ∧ j ≤ 4 ∧ i = .int .i64 j ∧ Below w.heap.size w wr ∧ Buf wr w.heap.size v j (dw (List.replicate j 0)))
  case atStart => exact ⟨0, rfl, Nat.zero_le _, rfl, hb0, hbf0⟩
  case round =>
    clear hb0 hbf0
    obtain ⟨j, hk, hj, rfl, hbw, hbuf⟩ := hrel
    have hM := Lib.hid hk
    clear hk
    have hws := hbw.size
    by_cases hlt : j < 4
    · have hlt' : (j : Int) < 4 := by omega
      go_wp2_with (at_builtin; refine wpList_append_one _ rfl (.tmp 18) (.tmp 19) 69 rfl w.heap.size 31 i0 (.int .u64 0) 8 Tryd.underlying69 hi hz0 hz1 hz2 rfl rfl hbuf rfl rfl ?b1 ?b2 hws ?next)
      case b1 => unfold maxLen; omega
      case b2 => omega
      case next =>
        intro v4 w4 r1 r2 r3
        have hl4 : Laid wr w.heap.size _ w4 v4 (j + 1) _ := ⟨r1, r2, r3⟩
        have hb4 := hbw.trans (hl4.below hbuf hws)
        have hbf4 := hl4.buf
        clear r1 r2 r3 hl4
        go_wp2_with fail
        go_roundg (4 - (j + 1))
        case measure => have := hM.out; omega
        case rel =>
          refine ⟨j + 1, rfl, by omega, by go_num, hb4, ?_⟩
          rw [List.replicate_succ', dw_app]
          exact hbf4
    · obtain rfl : j = 4 := by omega
      have hdec : decide (((4 : Nat) : Int) < 4) = false := by decide
      go_wp2_with (at_builtin; refine wpList_append_one _ rfl (.tmp 21) (.tmp 23) 69 rfl w.heap.size 31 i0 (.int .u64 0) 8 Tryd.underlying69 hi hz0 hz1 hz2 rfl rfl hbuf rfl rfl ?b3 ?b4 hws ?next2)
      case b3 => unfold maxLen; omega
      case b4 => omega
      case next2 =>
        intro v4 w4 r1 r2 r3
        have hl4 : Laid wr w.heap.size _ w4 v4 (4 + 1) _ := ⟨r1, r2, r3⟩
        have hb4 := hbw.trans (hl4.below hbuf hws)
        have hbf4 : Buf w4 w.heap.size v4 (4 + 1) (dw (List.replicate 4 0) ++ [.int .u64 (p : Int)]) := hl4.buf
        rw [HMST.out] at hbf4
        obtain ⟨AM, cM, rfl, hcM, hrM⟩ := hbf4.slice
        have h4s := hb4.size
        clear r1 r2 r3 hl4 hbuf hbw hws hbf4
        go_wp2_with fail
        go_loopg [7, 8] TOP (fun k vl vh wr => ∃ lo hi : Nat, k = hi - lo ∧ lo < hi ∧ (hi : Int) ≤ 137438953472 ∧ Hid (lo ^ 2 ≤ L.val MS ∧ L.val MS < hi ^ 2) ∧ vl = .int .u64 (lo : Int) ∧ vh = .int .u64 (hi : Int) ∧ Below w4.heap.size w4 wr)
        case atStart => exact ⟨0, TOP, rfl, by unfold TOP; decide, by rw [TOP_i]; omega, Lib.hid ⟨H0.out, HT.out⟩, rfl, rfl, Below.refl _ _⟩
        case round =>
          obtain ⟨lo, hi, hk, hlh, hht, hin, rfl, rfl, hbw⟩ := hrel
          have hM2 := Lib.hid hk
          clear hk
          by_cases hgo : lo + 1 < hi
          · have hg1 : (1 : Int) < (hi : Int) - (lo : Int) := by omega
            obtain ⟨m, hm⟩ : ∃ m, m = (lo + hi) / 2 := ⟨_, rfl⟩
            have hm1 : lo < m := by omega
            have hm2 : m < hi := by omega
            have hme : ((lo : Int) + (hi : Int)) / 2 = (m : Int) := by omega
            have hmb : (m : Int) < 281474976710656 := by omega
            have dM := Lib.hid (L.prs_dig m (by omega))
            have vM := Lib.hid (L.prs_val m)
            have lM := Lib.hid (show (dw (L.prs m)).length = 3 from rfl)
            clear hm
            go_wp2_with fail
            refine (parts_any _ m rfl hmb _).mono ?_
            rintro e x1 ⟨rfl, k1, b1⟩
            have HE := Lib.hid hme
            clear hme
            have s1 := b1.size
            have t1 := k1.lt
            go_wp2_with fail
            refine (parts_any _ m HE.out hmb _).mono ?_
            rintro e x2 ⟨rfl, k2, b2⟩
            have s2 := b2.size
            have k1' := k1.below b2 t1
            have B2 := hbw.trans ((b1.trans (b2.mono s1)).mono hbw.size)
            clear k1 b1 b2
            go_wp2_with fail
            refine (times_any _ _ 3 3 3 3 (L.prs m) (L.prs m) x2 (k1'.rd 3 lM.out) (k2.rd 3 lM.out) dM.out dM.out (by omega) (by omega)).mono ?_
            rintro e x3 ⟨g3, R3, rfl, k3, l3, d3, v3, b3⟩
            have s3 := b3.size
            have B3 := B2.trans (b3.mono B2.size)
            have V3 := Lib.hid v3
            have D3 := Lib.hid d3
            have L3 := Lib.hid l3
            clear v3 d3 l3 k1' k2 b3 B2
            have V5 := Lib.hid (show L.val R3 = m ^ 2 by rw [V3.out, vM.out]; simp [Nat.pow_succ])
            have rM := (hrM.below B3).up B3.size
            go_wp2_with fail
            refine (over_any _ _ 6 5 6 cM R3 MS x3 (k3.rd 6 (by rw [dw_len]; exact L3.out)) rM D3.out HMD.out (by omega) (by omega)).mono ?_
            rintro e x6 ⟨rfl, rfl⟩
            rw [V5.out]
            clear rM
            by_cases hov : L.val MS < m ^ 2
            · have hd : decide (L.val MS < m ^ 2) = true := by simpa using hov
              have HIN := Lib.hid (show lo ^ 2 ≤ L.val MS ∧ L.val MS < m ^ 2 from ⟨hin.out.1, hov⟩)
              rw [hd]
              clear hd hov
              go_wp2_with fail
              go_roundg (m - lo)
              case measure => have := hM2.out; omega
              case rel => exact ⟨lo, m, rfl, hm1, by omega, HIN, rfl, by rw [HE.out], B3⟩
            · have hd : decide (L.val MS < m ^ 2) = false := by simpa using hov
              have HIN := Lib.hid (show m ^ 2 ≤ L.val MS ∧ L.val MS < hi ^ 2 from ⟨by omega, hin.out.2⟩)
              rw [hd]
              clear hd hov
              go_wp2_with fail
              go_roundg (hi - m)
              case measure => have := hM2.out; omega
              case rel => exact ⟨m, hi, rfl, hm2, hht, HIN, by rw [HE.out], rfl, B3⟩
          · have hie : hi = lo + 1 := by omega
            have hg1 : decide ((1 : Int) < (hi : Int) - (lo : Int)) = false := by simp; omega
            have hlo := Lib.hid (HR.out lo hin.out.1 (by rw [← hie]; exact hin.out.2))
            have hl0 : (0 : Int) ≤ (lo : Int) := by omega
            have hl1 : (lo : Int) ≤ 18446744073709551615 := by omega
            have hlh' : (lo : Int) ≤ (hi : Int) := by omega
            have hh1 : (hi : Int) ≤ 18446744073709551615 := by omega
            clear hie hht hgo hlh
            go_wp2_with fail
            go_ret
            exact ⟨by rw [hlo.out]; rfl, hb4.trans (hbw.mono h4s)⟩

set_option maxHeartbeats 2000000 in
set_option maxRecDepth 100000 in
theorem root3_any (pI : Int) (p r : Nat) (hpI : pI = (p : Int)) (hp : (p : Int) ≤ 1000) (h1 : r ^ 3 ≤ p * 65536 ^ 6) (h2 : p * 65536 ^ 6 < (r + 1) ^ 3) (h3 : p * 65536 ^ 6 < TOP ^ 3) (w : World) :
    Calls Tryd.prog 24 #[.int .u64 pI, .int .i64 3] w fun e w' => e = .returned (.int .u32 ((r : Int) % 4294967296)) ∧ Below w.heap.size w w' := by
  subst hpI
  obtain ⟨i0, hi, hz0, hz1, hz2⟩ := info_parts Tryd.info31
  have HR := Lib.hid (fun (x : Nat) (a1 : x ^ 3 ≤ p * 65536 ^ 6) (a2 : p * 65536 ^ 6 < (x + 1) ^ 3) => rt_uniq 3 _ x r (by omega) a1 a2 h1 h2)
  have hMV := mst_val p 6
  have hMD := mst_dig p 6 (by omega)
  have hML := mst_len p 6
  have H0 := Lib.hid (show (0 : Nat) ^ 3 ≤ p * 65536 ^ 6 from by simp)
  have HT := Lib.hid h3
  rw [← hMV] at HR H0 HT
  clear h1 h2 h3 hMV
  have hMe : bys [] = [] := rfl
  have hbf0 : Buf (w.alloc (.cells #[] 31)) w.heap.size (.slice (some ⟨w.heap.size, 0, none⟩) 0 0) 0 (dw (List.replicate 0 0)) := Buf.new w w.heap.size 31 #[] (0, 0) (Nat.le_refl _) (by unfold maxLen; simp)
  have hb0 : Below w.heap.size w (w.alloc (.cells #[] 31)) := (Below.refl _ _).alloc (Nat.le_refl _) _
  have HMD := Lib.hid hMD
  have HML := Lib.hid hML
  have HMST := Lib.hid (show dw (List.replicate 6 0) ++ [.int .u64 (p : Int)] = dw (mst p 6) by simp [dw, mst])
  clear hMD hML hMe
  generalize mst p 6 = MS at *
  go_enter Tryd.func24, Tryd.ntmps24
  go_wp2_with fail
  go_loopg [5, 6] 6 (fun k v i wr => ∃ j, k = 6 - j ∧ j ≤ 6 ∧ i = .int .i64 j ∧ Below w.heap.size w wr ∧ Buf wr w.heap.size v j (dw (List.replicate j 0)))
  case atStart => exact ⟨0, rfl, Nat.zero_le _, rfl, hb0, hbf0⟩
  case round =>
    clear hb0 hbf0
    obtain ⟨j, hk, hj, rfl, hbw, hbuf⟩ := hrel
    have hM := Lib.hid hk
    clear hk
    have hws := hbw.size
    by_cases hlt : j < 6
    · have hlt' : (j : Int) < 6 := by omega
      go_wp2_with (at_builtin; refine wpList_append_one _ rfl (.tmp 18) (.tmp 19) 69 rfl w.heap.size 31 i0 (.int .u64 0) 8 Tryd.underlying69 hi hz0 hz1 hz2 rfl rfl hbuf rfl rfl ?b1 ?b2 hws ?next)
      case b1 => unfold maxLen; omega
      case b2 => omega
      case next =>
        intro v4 w4 r1 r2 r3
        have hl4 : Laid wr w.heap.size _ w4 v4 (j + 1) _ := ⟨r1, r2, r3⟩
        have hb4 := hbw.trans (hl4.below hbuf hws)
        have hbf4 := hl4.buf
        clear r1 r2 r3 hl4
        go_wp2_with fail
        go_roundg (6 - (j + 1))
        case measure => have := hM.out; omega
        case rel =>
          refine ⟨j + 1, rfl, by omega, by go_num, hb4, ?_⟩
          rw [List.replicate_succ', dw_app]
          exact hbf4
    · obtain rfl : j = 6 := by omega
      have hdec : decide (((6 : Nat) : Int) < 6) = false := by decide
      go_wp2_with (at_builtin; refine wpList_append_one _ rfl (.tmp 21) (.tmp 23) 69 rfl w.heap.size 31 i0 (.int .u64 0) 8 Tryd.underlying69 hi hz0 hz1 hz2 rfl rfl hbuf rfl rfl ?b3 ?b4 hws ?next2)
      case b3 => unfold maxLen; omega
      case b4 => omega
      case next2 =>
        intro v4 w4 r1 r2 r3
        have hl4 : Laid wr w.heap.size _ w4 v4 (6 + 1) _ := ⟨r1, r2, r3⟩
        have hb4 := hbw.trans (hl4.below hbuf hws)
        have hbf4 : Buf w4 w.heap.size v4 (6 + 1) (dw (List.replicate 6 0) ++ [.int .u64 (p : Int)]) := hl4.buf
        rw [HMST.out] at hbf4
        obtain ⟨AM, cM, rfl, hcM, hrM⟩ := hbf4.slice
        have h4s := hb4.size
        clear r1 r2 r3 hl4 hbuf hbw hws hbf4
        go_wp2_with fail
        go_loopg [7, 8] TOP (fun k vl vh wr => ∃ lo hi : Nat, k = hi - lo ∧ lo < hi ∧ (hi : Int) ≤ 137438953472 ∧ Hid (lo ^ 3 ≤ L.val MS ∧ L.val MS < hi ^ 3) ∧ vl = .int .u64 (lo : Int) ∧ vh = .int .u64 (hi : Int) ∧ Below w4.heap.size w4 wr)
        case atStart => exact ⟨0, TOP, rfl, by unfold TOP; decide, by rw [TOP_i]; omega, Lib.hid ⟨H0.out, HT.out⟩, rfl, rfl, Below.refl _ _⟩
        case round =>
          obtain ⟨lo, hi, hk, hlh, hht, hin, rfl, rfl, hbw⟩ := hrel
          have hM2 := Lib.hid hk
          clear hk
          by_cases hgo : lo + 1 < hi
          · have hg1 : (1 : Int) < (hi : Int) - (lo : Int) := by omega
            obtain ⟨m, hm⟩ : ∃ m, m = (lo + hi) / 2 := ⟨_, rfl⟩
            have hm1 : lo < m := by omega
            have hm2 : m < hi := by omega
            have hme : ((lo : Int) + (hi : Int)) / 2 = (m : Int) := by omega
            have hmb : (m : Int) < 281474976710656 := by omega
            have dM := Lib.hid (L.prs_dig m (by omega))
            have vM := Lib.hid (L.prs_val m)
            have lM := Lib.hid (show (dw (L.prs m)).length = 3 from rfl)
            clear hm
            go_wp2_with fail
            refine (parts_any _ m rfl hmb _).mono ?_
            rintro e x1 ⟨rfl, k1, b1⟩
            have HE := Lib.hid hme
            clear hme
            have s1 := b1.size
            have t1 := k1.lt
            go_wp2_with fail
            refine (parts_any _ m HE.out hmb _).mono ?_
            rintro e x2 ⟨rfl, k2, b2⟩
            have s2 := b2.size
            have k1' := k1.below b2 t1
            have B2 := hbw.trans ((b1.trans (b2.mono s1)).mono hbw.size)
            clear k1 b1 b2
            go_wp2_with fail
            refine (times_any _ _ 3 3 3 3 (L.prs m) (L.prs m) x2 (k1'.rd 3 lM.out) (k2.rd 3 lM.out) dM.out dM.out (by omega) (by omega)).mono ?_
            rintro e x3 ⟨g3, R3, rfl, k3, l3, d3, v3, b3⟩
            have s3 := b3.size
            have B3 := B2.trans (b3.mono B2.size)
            have V3 := Lib.hid v3
            have D3 := Lib.hid d3
            have L3 := Lib.hid l3
            clear v3 d3 l3 k1' k2 b3 B2
            go_wp2_with fail
            refine (parts_any _ m HE.out hmb _).mono ?_
            rintro e x4 ⟨rfl, k4, b4⟩
            have s4 := b4.size
            have k3' := k3.below b4 k3.lt
            have B4 := B3.trans (b4.mono B3.size)
            clear k3 b4 B3
            go_wp2_with fail
            refine (times_any _ _ 6 3 6 3 R3 (L.prs m) x4 (k3'.rd 6 (by rw [dw_len]; exact L3.out)) (k4.rd 3 lM.out) D3.out dM.out (by omega) (by omega)).mono ?_
            rintro e x5 ⟨g5, R5, rfl, k5, l5, d5, v5, b5⟩
            have B5 := B4.trans (b5.mono B4.size)
            have V5 := Lib.hid (show L.val R5 = m ^ 3 by rw [v5, V3.out, vM.out]; simp [Nat.pow_succ])
            have D5 := Lib.hid d5
            have L5 := Lib.hid l5
            clear v5 d5 l5 k3' k4 b5 B4
            have rM := (hrM.below B5).up B5.size
            go_wp2_with fail
            refine (over_any _ _ 9 7 9 cM R5 MS x5 (k5.rd 9 (by rw [dw_len]; exact L5.out)) rM D5.out HMD.out (by omega) (by omega)).mono ?_
            rintro e x6 ⟨rfl, rfl⟩
            rw [V5.out]
            clear rM
            by_cases hov : L.val MS < m ^ 3
            · have hd : decide (L.val MS < m ^ 3) = true := by simpa using hov
              have HIN := Lib.hid (show lo ^ 3 ≤ L.val MS ∧ L.val MS < m ^ 3 from ⟨hin.out.1, hov⟩)
              rw [hd]
              clear hd hov
              go_wp2_with fail
              go_roundg (m - lo)
              case measure => have := hM2.out; omega
              case rel => exact ⟨lo, m, rfl, hm1, by omega, HIN, rfl, by rw [HE.out], B5⟩
            · have hd : decide (L.val MS < m ^ 3) = false := by simpa using hov
              have HIN := Lib.hid (show m ^ 3 ≤ L.val MS ∧ L.val MS < hi ^ 3 from ⟨by omega, hin.out.2⟩)
              rw [hd]
              clear hd hov
              go_wp2_with fail
              go_roundg (hi - m)
              case measure => have := hM2.out; omega
              case rel => exact ⟨m, hi, rfl, hm2, hht, HIN, by rw [HE.out], rfl, B5⟩
          · have hie : hi = lo + 1 := by omega
            have hg1 : decide ((1 : Int) < (hi : Int) - (lo : Int)) = false := by simp; omega
            have hlo := Lib.hid (HR.out lo hin.out.1 (by rw [← hie]; exact hin.out.2))
            have hl0 : (0 : Int) ≤ (lo : Int) := by omega
            have hl1 : (lo : Int) ≤ 18446744073709551615 := by omega
            have hlh' : (lo : Int) ≤ (hi : Int) := by omega
            have hh1 : (hi : Int) ≤ 18446744073709551615 := by omega
            clear hie hht hgo hlh
            go_wp2_with fail
            go_ret
            exact ⟨by rw [hlo.out]; rfl, hb4.trans (hbw.mono h4s)⟩
end Go.Proofs.YtkokbpifjpmhlaaDoor
