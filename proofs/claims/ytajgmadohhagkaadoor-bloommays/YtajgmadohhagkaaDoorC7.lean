/- The law's bits of a key. -/
import Derived.Test.YtajgmadohhagkaaDoorC5
import Derived.Test.YtajgmadohhagkaaDoorRMsk
namespace Go.Proofs.YtajgmadohhagkaaDoor
set_option linter.unusedSimpArgs false
set_option linter.unusedVariables false
open Go.RowKit

def kps (n : Nat) (s : List Nat) : Nat → List Nat
  | 0 => []
  | k + 1 => kps n s k ++ [kp n s k]
theorem kps_len (n : Nat) (s : List Nat) : ∀ k, (kps n s k).length = k
  | 0 => rfl
  | k + 1 => by simp [kps, kps_len n s k]
theorem kps_get (n : Nat) (s : List Nat) (j : Nat) : ∀ k, j < k → (kps n s k)[j]? = some (kp n s j)
  | 0, h => absurd h (by omega)
  | k + 1, h => by
    rw [kps]
    by_cases e : j < k
    · rw [List.getElem?_append_left (by rw [kps_len]; exact e)]; exact kps_get n s j k e
    · have e2 : j = k := by omega
      subst e2
      rw [List.getElem?_append_right (by rw [kps_len]; exact Nat.le_refl _), kps_len, Nat.sub_self]
      rfl
theorem kstp_even (s : List Nat) (h : mk (ksum s) % 2 = 0) : kstp s = mk (ksum s) + 1 := nat_join1 _ 1 h (by decide)
theorem kstp_odd (s : List Nat) (h : mk (ksum s) % 2 = 1) : kstp s = mk (ksum s) := by
  unfold kstp
  generalize mk (ksum s) = m at *
  have e : m = (m - 1) + 1 := by omega
  have e2 : (m - 1) ||| 1 = m - 1 + 1 := nat_join1 _ 1 (by omega) (by decide)
  have e3 : m = (m - 1) ||| 1 := by omega
  have : m ||| 1 = ((m - 1) ||| 1) ||| 1 := by rw [← e3]
  rw [this, Nat.or_assoc, Nat.or_self, ← e3]

set_option maxHeartbeats 1000000 in
set_option maxRecDepth 100000 in
theorem kbits_any (s : List Nat) (hs : ∀ c ∈ s, c < 256) (hsl : s.length ≤ 1000000000) (n : Nat) (hn : (n : Int) ≤ 1048576) (hn0 : 0 < n) (w : World) :
    Calls Tryd.prog 11 #[.string (strB s), .int .i64 (n : Int)] w fun e w' => ∃ v, e = .returned v ∧ Buf w' w.heap.size v 6 (ints (kps n s 6)) ∧ Below w.heap.size w w' := by
  obtain ⟨i0, hi, hz0, hz1, hz2⟩ := info_parts Tryd.info3
  have kc := conv_back (P := Tryd.prog) w 9 30 5 s Tryd.underlying9 Tryd.underlying30 Tryd.underlying5
  have hb1 := bytes_below w 5 (strB s)
  have hrd := bytes_rd w 5 s hs
  have hz : (Lib.bytesWorld w 5 (strB s)).heap.size = w.heap.size + 1 := Lib.bytesWorld_size _ _ _
  have HB1 := Lib.hid hb1
  generalize Lib.bytesWorld w 5 (strB s) = w1 at *
  have HSUM := Lib.hid (fun c => refsum_any (some ⟨w.heap.size, 0, none⟩) s.length c s w1 (by rw [hz]; exact hrd) hs hsl)
  have HMASK := Lib.hid (fun W => refmask_any (ksum s) (by have := ksum_lt s hs; omega) W)
  have HL := Lib.hid (ksum_lt s hs)
  have HS2 := Lib.hid (kstp_lt s)
  have HEV := Lib.hid (kstp_even s)
  have HOD := Lib.hid (kstp_odd s)
  have HA := Lib.hid (fun k => ka_lt s hs k)
  have HMK := Lib.hid (mk_lt (ksum s))
  have s1 := hb1.size
  clear hb1 hrd hz
  go_enter Tryd.func11, Tryd.ntmps11
  go_wp2_with fail
  refine (HSUM.out _).mono ?_
  rintro e w2 ⟨rfl, hb2⟩
  have HB2 := Lib.hid (HB1.out.trans (hb2.mono s1))
  have HKS : Hid (ka s 0 = ksum s) := Lib.hid rfl
  rw [show nt (crcR (nt 0) s) = ksum s from rfl]
  clear hb2
  generalize ksum s = a0 at *
  have ha0' : (a0 : Int) ≤ 4294967295 := by have := HL.out; omega
  go_wp2_with fail
  refine (HMASK.out _).mono ?_
  rintro e w3 ⟨rfl, hb3⟩
  have HB3 := Lib.hid (HB2.out.trans (hb3.mono HB2.out.size))
  clear hb3
  have hm0 : (mk a0 : Int) ≤ 4294967295 := by have := HMK.out; omega
  generalize mk a0 = m0 at *
  generalize hst : kstp s = st at *
  have HST := Lib.hid hst
  clear hst
  have hst' : (st : Int) ≤ 4294967295 := by have := HS2.out; omega
  go_upto_region 3 with fail
  by_cases hpar : m0 % 2 = 0
  · have hst2 : st = m0 + 1 := HEV.out hpar
    have hE : (m0 : Int) + 1 = (st : Int) := by omega
    have hE2 : (m0 : Int) % 2 = 0 := by omega
    have hE3 : (m0 : Int) ≤ 4294967294 := by omega
    have HST2 := Lib.hid hst2
    clear HEV HOD hst2 hpar
    go_upto_region 6 with fail
    clear hE2
    obtain ⟨b, hb⟩ : ∃ b, b = w3.heap.size := ⟨_, rfl⟩
    have X0 : Buf (w3.alloc (.cells #[] 3)) b (.slice (some ⟨b, 0, none⟩) 0 0) 0 (ints (kps n s 0)) := by
      rw [hb]
      exact Buf.new w3 w3.heap.size 3 #[] (0, 0) (Nat.le_refl _) (by unfold maxLen; simp)
    have Y0 : Below b w3 (w3.alloc (.cells #[] 3)) := by rw [hb]; exact (Below.refl _ _).alloc (Nat.le_refl _) _
    have HX0 := Lib.hid X0
    have HY0 := Lib.hid Y0
    have sb : w.heap.size ≤ b := by rw [hb]; exact HB3.out.size
    have HBE := Lib.hid hb
    rw [← hb]
    clear X0 Y0 hb
    generalize w3.alloc (.cells #[] 3) = w5 at *
    go_upto_region 7 with fail
    go_loopg [5, 7, 8] 6 (fun kx v5 v7 v8 wr => ∃ k : Nat, k ≤ 6 ∧ kx = 6 - k ∧ v8 = .int .i64 (k : Int) ∧ v5 = .int .u32 ((ka s k : Nat) : Int) ∧ Hid (Buf wr b v7 k (ints (kps n s k)) ∧ Below b w3 wr))
    case atStart => exact ⟨0, by omega, rfl, rfl, by rw [HKS.out], Lib.hid ⟨HX0.out, HY0.out⟩⟩
    case round =>
      obtain ⟨k, hk6, hkx, rfl, rfl, HI⟩ := hrel
      have HX := Lib.hid hkx
      clear hkx
      have hbr : b ≤ wr.heap.size := by have := HI.out.2.size; have := HBE.out; omega
      by_cases hlt : k < 6
      · have hlt' : (k : Int) < 6 := by omega
        have hak := HA.out k
        have HKP : Hid (kp n s k = ka s k * (8 * n) / 4294967296) := Lib.hid rfl
        have HKN : Hid (ka s (k + 1) = (ka s k + st) % 4294967296) := Lib.hid (by rw [ka, HST.out])
        have HKL : Hid (kps n s (k + 1) = kps n s k ++ [kp n s k]) := Lib.hid rfl
        have hkp := kp_lt n s hs hn0 k
        generalize ka s k = a at *
        generalize hA2 : ka s (k + 1) = a2 at *
        have HA2 := Lib.hid hA2
        clear hA2
        generalize kp n s k = p at *
        have ha' : (a : Int) ≤ 4294967295 := by omega
        have hp0 : (0 : Int) ≤ (a : Int) * (8 * (n : Int)) := Int.mul_nonneg (by omega) (by omega)
        have hp1 : (a : Int) * (8 * (n : Int)) ≤ 4294967295 * 8388608 := Int.mul_le_mul ha' (by omega) (by omega) (by omega)
        have hpe : (a : Int) * (8 * (n : Int)) / 4294967296 = (p : Int) := by
          rw [HKP.out]
          simp
        have hpp : (p : Int) ≤ 8388608 := by omega
        have hX := HI.out.1
        have HBR := HI.out.2
        clear hak hkp
        go_wp2_with (at_builtin; refine wpList_append_one _ rfl (.tmp 24) (.tmp 33) 31 rfl b 3 i0 (.int .i64 0) 8 Tryd.underlying31 hi hz0 hz1 hz2 rfl rfl hX rfl rfl ?b1 ?b2 hbr ?next)
        case b1 => unfold maxLen; omega
        case b2 => omega
        case next =>
          intro v' w' r1 r2 r3
          have hB1 := (Below.refl b wr).grown r2 hbr fun k hk => (hX.lt k hk).1
          have HBW2 := Lib.hid (HBR.trans hB1)
          have HR1 := Lib.hid r1
          clear r1 r2 r3 hX hB1 HBR
          have hsum : ((a : Int) + (st : Int)) % 4294967296 = (a2 : Int) := by rw [HKN.out]; omega
          go_wp2
          go_roundg (6 - (k + 1))
          case measure => have := HX.out; omega
          case rel =>
            refine ⟨k + 1, by omega, rfl, by go_num, by rw [HA2.out, hsum], Lib.hid ⟨?_, HBW2.out⟩⟩
            rw [HKL.out, ints_app]
            have := HR1.out
            simpa [ints] using this
      · obtain rfl : k = 6 := by omega
        have HF := Lib.hid (HB3.out.trans (HI.out.2.mono sb))
        have HR := Lib.hid (HI.out.1.base_le sb)
        go_wp2
        go_ret
        exact ⟨_, rfl, HR.out, HF.out⟩
  · have hst2 : st = m0 := HOD.out (by omega)
    have hE2 : (m0 : Int) % 2 = 1 := by omega
    clear HEV HOD hpar
    subst hst2
    go_upto_region 6 with fail
    clear hE2
    obtain ⟨b, hb⟩ : ∃ b, b = w3.heap.size := ⟨_, rfl⟩
    have X0 : Buf (w3.alloc (.cells #[] 3)) b (.slice (some ⟨b, 0, none⟩) 0 0) 0 (ints (kps n s 0)) := by
      rw [hb]
      exact Buf.new w3 w3.heap.size 3 #[] (0, 0) (Nat.le_refl _) (by unfold maxLen; simp)
    have Y0 : Below b w3 (w3.alloc (.cells #[] 3)) := by rw [hb]; exact (Below.refl _ _).alloc (Nat.le_refl _) _
    have HX0 := Lib.hid X0
    have HY0 := Lib.hid Y0
    have sb : w.heap.size ≤ b := by rw [hb]; exact HB3.out.size
    have HBE := Lib.hid hb
    rw [← hb]
    clear X0 Y0 hb
    generalize w3.alloc (.cells #[] 3) = w5 at *
    go_upto_region 7 with fail
    go_loopg [5, 7, 8] 6 (fun kx v5 v7 v8 wr => ∃ k : Nat, k ≤ 6 ∧ kx = 6 - k ∧ v8 = .int .i64 (k : Int) ∧ v5 = .int .u32 ((ka s k : Nat) : Int) ∧ Hid (Buf wr b v7 k (ints (kps n s k)) ∧ Below b w3 wr))
    case atStart => exact ⟨0, by omega, rfl, rfl, by rw [HKS.out], Lib.hid ⟨HX0.out, HY0.out⟩⟩
    case round =>
      obtain ⟨k, hk6, hkx, rfl, rfl, HI⟩ := hrel
      have HX := Lib.hid hkx
      clear hkx
      have hbr : b ≤ wr.heap.size := by have := HI.out.2.size; have := HBE.out; omega
      by_cases hlt : k < 6
      · have hlt' : (k : Int) < 6 := by omega
        have hak := HA.out k
        have HKP : Hid (kp n s k = ka s k * (8 * n) / 4294967296) := Lib.hid rfl
        have HKN : Hid (ka s (k + 1) = (ka s k + st) % 4294967296) := Lib.hid (by rw [ka, HST.out])
        have HKL : Hid (kps n s (k + 1) = kps n s k ++ [kp n s k]) := Lib.hid rfl
        have hkp := kp_lt n s hs hn0 k
        generalize ka s k = a at *
        generalize hA2 : ka s (k + 1) = a2 at *
        have HA2 := Lib.hid hA2
        clear hA2
        generalize kp n s k = p at *
        have ha' : (a : Int) ≤ 4294967295 := by omega
        have hp0 : (0 : Int) ≤ (a : Int) * (8 * (n : Int)) := Int.mul_nonneg (by omega) (by omega)
        have hp1 : (a : Int) * (8 * (n : Int)) ≤ 4294967295 * 8388608 := Int.mul_le_mul ha' (by omega) (by omega) (by omega)
        have hpe : (a : Int) * (8 * (n : Int)) / 4294967296 = (p : Int) := by
          rw [HKP.out]
          simp
        have hpp : (p : Int) ≤ 8388608 := by omega
        have hX := HI.out.1
        have HBR := HI.out.2
        clear hak hkp
        go_wp2_with (at_builtin; refine wpList_append_one _ rfl (.tmp 24) (.tmp 33) 31 rfl b 3 i0 (.int .i64 0) 8 Tryd.underlying31 hi hz0 hz1 hz2 rfl rfl hX rfl rfl ?b1 ?b2 hbr ?next)
        case b1 => unfold maxLen; omega
        case b2 => omega
        case next =>
          intro v' w' r1 r2 r3
          have hB1 := (Below.refl b wr).grown r2 hbr fun k hk => (hX.lt k hk).1
          have HBW2 := Lib.hid (HBR.trans hB1)
          have HR1 := Lib.hid r1
          clear r1 r2 r3 hX hB1 HBR
          have hsum : ((a : Int) + (st : Int)) % 4294967296 = (a2 : Int) := by rw [HKN.out]; omega
          go_wp2
          go_roundg (6 - (k + 1))
          case measure => have := HX.out; omega
          case rel =>
            refine ⟨k + 1, by omega, rfl, by go_num, by rw [HA2.out, hsum], Lib.hid ⟨?_, HBW2.out⟩⟩
            rw [HKL.out, ints_app]
            have := HR1.out
            simpa [ints] using this
      · obtain rfl : k = 6 := by omega
        have HF := Lib.hid (HB3.out.trans (HI.out.2.mono sb))
        have HR := Lib.hid (HI.out.1.base_le sb)
        go_wp2
        go_ret
        exact ⟨_, rfl, HR.out, HF.out⟩
end Go.Proofs.YtajgmadohhagkaaDoor
