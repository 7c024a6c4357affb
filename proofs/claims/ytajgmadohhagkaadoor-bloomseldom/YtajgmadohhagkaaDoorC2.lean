/- Walks: walk. -/
import Derived.Test.YtajgmadohhagkaaDoorC1
import Derived.Deep.LoopGhost
namespace Go.Proofs.YtajgmadohhagkaaDoor
set_option linter.unusedSimpArgs false
set_option linter.unusedVariables false
open Go.RowKit

theorem kstp_bits (s : List Nat) : bits BinOp.or IntKind.u32 ((mk (ksum s) : Nat) : Int) 1 = ((kstp s : Nat) : Int) := by
  have := u32_or_nat (mk (ksum s)) 1 (mk_lt _) (by decide)
  exact this

set_option maxHeartbeats 1000000 in
set_option maxRecDepth 100000 in
theorem walk_any (F : FuncId) (cap : Value) (hF : ∀ W args, (callFunc F args).run Tryd.prog W = .ok (.enter F args) W) (s : List Nat) (hs : ∀ c ∈ s, c < 256) (hsl : s.length ≤ 1000000000) (n : Nat) (hn : (n : Int) ≤ 1048576) (w : World) (ht : TabAt w)
    (I : Nat → World → Prop) (r : Nat → Bool) (h0 : ∀ W, Below w.heap.size w W → I 0 W)
    (H : ∀ k W, k < 6 → I k W → Calls Tryd.prog F #[.int .u64 ((kp n s k : Nat) : Int), cap] W fun e w' => e = .returned (.bool (r k)) ∧ I (k + 1) w') :
    Calls Tryd.prog 17 #[.string (strB s), .int .i64 (n : Int), .func (.func F) #[] #[cap]] w fun e w' =>
      (e = .returned (.bool true) ∧ I 6 w' ∧ ∀ j, j < 6 → r j = true) ∨ (e = .returned (.bool false) ∧ ∃ m, m < 6 ∧ I (m + 1) w' ∧ r m = false) := by
  have kc := conv_back (P := Tryd.prog) w 9 30 5 s Tryd.underlying9 Tryd.underlying30 Tryd.underlying5
  have hb1 := bytes_below w 5 (strB s)
  have hrd := bytes_rd w 5 s hs
  have HT := Lib.hid (ht.below hb1 ht.1)
  have HI0 := Lib.hid (h0 _ hb1)
  generalize Lib.bytesWorld w 5 (strB s) = w1 at *
  clear h0 ht hb1
  have HSUM := Lib.hid (fun W c (hr : Rd W (w.heap.size + 1) (some ⟨w.heap.size, 0, none⟩) s.length (bys s)) (hT : TabAt W) => sum_any (some ⟨w.heap.size, 0, none⟩) s.length c s W _ hr hs hsl hT)
  have HMASK := Lib.hid (fun W => mask_any (ksum s) (by have := ksum_lt s hs; omega) W)
  have HL := Lib.hid (ksum_lt s hs)
  have HK := Lib.hid (kstp_bits s)
  have HS2 := Lib.hid (kstp_lt s)
  have HA := Lib.hid (fun k => ka_lt s hs k)
  have HH := Lib.hid H
  clear H
  go_enter Tryd.func17, Tryd.ntmps17
  go_wp2_with fail
  refine (HSUM.out w1 _ hrd HT.out).mono ?_
  rintro e w2 ⟨rfl, rfl⟩
  clear hrd
  have HKS : Hid (ka s 0 = ksum s) := Lib.hid rfl
  rw [show nt (crcR (nt 0) s) = ksum s from rfl]
  generalize ksum s = a0 at *
  have ha0 := HL.out
  have ha0' : (a0 : Int) ≤ 4294967295 := by omega
  clear ha0
  go_wp2_with fail
  refine (HMASK.out _).mono ?_
  rintro e w2 ⟨rfl, rfl⟩
  have hk := HK.out
  generalize mk a0 = m0 at *
  generalize hst : kstp s = st at *
  have HST := Lib.hid hst
  clear hst
  have hst' : (st : Int) ≤ 4294967295 := by have := HS2.out; omega
  go_upto_region 3 with fail
  go_wp2_with fail
  go_loopg [7, 15] 6 (fun kx va vi wr => ∃ k : Nat, k ≤ 6 ∧ kx = 6 - k ∧ vi = .int .i64 (k : Int) ∧ va = .int .u32 ((ka s k : Nat) : Int) ∧ Hid (I k wr ∧ ∀ j, j < k → r j = true))
  case atStart => exact ⟨0, by omega, rfl, rfl, by rw [HKS.out], Lib.hid ⟨HI0.out, fun j hj => absurd hj (by omega)⟩⟩
  case round =>
    obtain ⟨k, hk6, hkx, rfl, rfl, HI⟩ := hrel
    have HX := Lib.hid hkx
    clear hkx hk
    by_cases hlt : k < 6
    · have hlt' : (k : Int) < 6 := by omega
      have hak := HA.out k
      have HKP : Hid (kp n s k = ka s k * (8 * n) / 4294967296) := Lib.hid rfl
      have HKN : Hid (ka s (k + 1) = (ka s k + st) % 4294967296) := Lib.hid (by rw [ka, HST.out])
      have HC := Lib.hid (HH.out k wr hlt HI.out.1)
      generalize ka s k = a at *
      generalize hA2 : ka s (k + 1) = a2 at *
      have HA2 := Lib.hid hA2
      clear hA2
      generalize kp n s k = p at *
      have ha' : (a : Int) ≤ 4294967295 := by omega
      have hp0 : (0 : Int) ≤ (a : Int) * (8 * (n : Int)) := Int.mul_nonneg (by omega) (by omega)
      have hp1 : (a : Int) * (8 * (n : Int)) ≤ 4294967295 * 8388608 := Int.mul_le_mul ha' (by omega) (by omega) (by omega)
      have hpe : (a : Int) * (8 * (n : Int)) / 4294967296 = (p : Int) := by
        rw [HKP.out]
        simp
      clear hak
      go_wp2_with fail
      refine HC.out.mono ?_
      rintro e w2 ⟨rfl, hI2⟩
      have HI2 := Lib.hid hI2
      clear hI2 HC
      have HRK := Lib.hid (fun (x : r k = true) => show ∀ j, j < k + 1 → r j = true from fun j hj => by
        by_cases e : j = k
        · rw [e]; exact x
        · exact HI.out.2 j (by omega))
      have HRF := Lib.hid (fun (x : r k = false) => (⟨k, hlt, HI2.out, x⟩ : ∃ m, m < 6 ∧ I (m + 1) w2 ∧ r m = false))
      generalize r k = rk at *
      cases rk with
      | true =>
        have hsum : ((a : Int) + (st : Int)) % 4294967296 = (a2 : Int) := by rw [HKN.out]; omega
        go_wp2_with fail
        go_roundg (6 - (k + 1))
        case measure => have := HX.out; omega
        case rel => exact ⟨k + 1, by omega, rfl, by go_num, by rw [HA2.out, hsum], Lib.hid ⟨HI2.out, HRK.out (by trivial)⟩⟩
      | false =>
        go_wp2
        go_ret
        exact .inr ⟨rfl, HRF.out (by trivial)⟩
    · obtain rfl : k = 6 := by omega
      go_wp2
      go_ret
      exact .inl ⟨rfl, HI.out⟩
end Go.Proofs.YtajgmadohhagkaaDoor
