/- The walk of NumOrders. -/
import Derived.Test.YtkbdmbefhndlcaaW7
namespace Go.Proofs.Ytkbdmbefhndlcaa
set_option linter.unusedSimpArgs false
set_option linter.unusedVariables false
open Go.RowKit

/-- The number of bytes, the highest first, by the list. -/
def val : List Nat → Nat
  | [] => 0
  | c :: l => c * 256 ^ l.length + val l

theorem val_lt : ∀ (x : List Nat), (∀ c ∈ x, c < 256) → val x < 256 ^ x.length
  | [], _ => by simp [val]
  | c :: l, h => by
    have h1 := val_lt l (fun c hc => h c (by simp [hc]))
    have h2 := h c (by simp)
    have h3 : c * 256 ^ l.length ≤ 255 * 256 ^ l.length := Nat.mul_le_mul_right _ (by omega)
    simp only [val, List.length_cons, Nat.pow_succ]
    omega

theorem ofNat_lt (a b : Nat) (ha : a < 256) (hb : b < 256) : (UInt8.ofNat a < UInt8.ofNat b) ↔ a < b := by
  rw [UInt8.lt_iff_toNat_lt, UInt8.toNat_ofNat', UInt8.toNat_ofNat', Nat.mod_eq_of_lt ha, Nat.mod_eq_of_lt hb]

theorem less_val : ∀ (x y : List Nat), x.length = y.length → (∀ c ∈ x, c < 256) → (∀ c ∈ y, c < 256) → Op.bytesLess (x.map UInt8.ofNat) (y.map UInt8.ofNat) = decide (val x < val y)
  | [], [], _, _, _ => by simp [Op.bytesLess, val]
  | [], _ :: _, h, _, _ => by simp at h
  | _ :: _, [], h, _, _ => by simp at h
  | c :: x, d :: y, h, hx, hy => by
    have hl : x.length = y.length := by simpa using h
    have ih := less_val x y hl (fun c hc => hx c (by simp [hc])) (fun c hc => hy c (by simp [hc]))
    have h1 := val_lt x (fun c hc => hx c (by simp [hc]))
    have h2 := val_lt y (fun c hc => hy c (by simp [hc]))
    have hc := hx c (by simp)
    have hd := hy d (by simp)
    have hv1 : val (c :: x) = c * 256 ^ y.length + val x := by rw [val, hl]
    have hv2 : val (d :: y) = d * 256 ^ y.length + val y := by rw [val]
    simp only [List.map_cons, Op.bytesLess, ih]
    rw [hl] at h1
    rcases Nat.lt_trichotomy c d with hcd | hcd | hcd
    · have : decide (UInt8.ofNat c < UInt8.ofNat d) = true := by rw [decide_eq_true_eq]; exact (ofNat_lt c d hc hd).2 hcd
      rw [this, Bool.true_or]
      have h3 : (c + 1) * 256 ^ y.length ≤ d * 256 ^ y.length := Nat.mul_le_mul_right _ hcd
      rw [Nat.add_mul] at h3
      symm
      rw [decide_eq_true_eq, hv1, hv2]
      omega
    · subst hcd
      have : decide (UInt8.ofNat c < UInt8.ofNat c) = false := by rw [decide_eq_false_iff_not]; intro h'; have := (ofNat_lt c c hc hc).1 h'; omega
      rw [this, Bool.false_or, beq_self_eq_true, Bool.true_and]
      rw [decide_eq_decide, hv1, hv2]
      omega
    · have : decide (UInt8.ofNat c < UInt8.ofNat d) = false := by rw [decide_eq_false_iff_not]; intro h'; have := (ofNat_lt c d hc hd).1 h'; omega
      have h4 : (UInt8.ofNat c == UInt8.ofNat d) = false := by
        rw [beq_eq_false_iff_ne]
        intro h'
        have := ofNat_inj c d hc hd h'
        omega
      rw [this, h4, Bool.false_or, Bool.false_and]
      have h3 : (d + 1) * 256 ^ y.length ≤ c * 256 ^ y.length := Nat.mul_le_mul_right _ hcd
      rw [Nat.add_mul] at h3
      symm
      rw [decide_eq_false_iff_not, hv1, hv2]
      omega

theorem beB_succ (n k : Nat) : M.beB n (k + 1) = (n / 256 ^ k % 256) :: M.beB n k := by
  simp only [M.beB, M.beP, List.range_succ_eq_map, List.map_cons, List.map_map]
  congr 1
  apply List.map_congr_left
  intro i _
  simp only [Function.comp]
  congr 3
  omega
theorem val_beB (n k : Nat) : val (M.beB n k) = n % 256 ^ k := by
  induction k with
  | zero => simp [M.beB, M.beP, val, Nat.mod_one]
  | succ k ih => rw [beB_succ, val, ih, M.beB_len, Nat.pow_succ, Nat.mod_mul, Nat.mul_comm, Nat.add_comm]
theorem val_beB8 (n : Nat) (h : n < 18446744073709551616) : val (M.beB n 8) = n := by
  rw [val_beB]; exact Nat.mod_eq_of_lt (by simpa using h)
theorem less_beB (a b : Nat) (ha : a < 18446744073709551616) (hb : b < 18446744073709551616) : Op.bytesLess (strB (M.beB a 8)).toList (strB (M.beB b 8)).toList = decide (a < b) := by
  rw [strB_list, strB_list, less_val _ _ (by rw [M.beB_len, M.beB_len]) (M.beB_lt _ _) (M.beB_lt _ _), val_beB8 a ha, val_beB8 b hb]
theorem eq_beB (a b : Nat) (ha : a < 18446744073709551616) (hb : b < 18446744073709551616) : ((strB (M.beB a 8)).toList == (strB (M.beB b 8)).toList) = decide (a = b) := by
  rw [strB_beq _ _ (M.beB_lt _ _) (M.beB_lt _ _), decide_eq_decide]
  constructor
  · intro h
    have := congrArg val h
    rwa [val_beB8 a ha, val_beB8 b hb] at this
  · rintro rfl; rfl

theorem cs_mono (a b : Nat) (h : a ≤ b) : M.cs a ≤ M.cs b := by
  unfold M.cs
  by_cases h1 : a < 253 <;> by_cases h2 : a ≤ 65535 <;> by_cases h3 : a ≤ 4294967295 <;> by_cases h4 : b < 253 <;> by_cases h5 : b ≤ 65535 <;> by_cases h6 : b ≤ 4294967295 <;> simp only [h1, h2, h3, h4, h5, h6, if_true, if_false] <;> omega

set_option maxHeartbeats 1000000 in
set_option maxRecDepth 100000 in
theorem orders_lt (a b : Nat) (ha : (a : Int) ≤ 18446744073709551615) (hb : (b : Int) ≤ 18446744073709551615) (hab : a < b) (w : World) :
    Calls Try.prog 8 #[.int .u64 (a : Int), .int .u64 (b : Int)] w fun e w' => e = .returned (.bool true) ∧ Below w.heap.size w w' := by
  have hless := less_beB a b (by omega) (by omega)
  have heq := eq_beB a b (by omega) (by omega)
  rw [decide_eq_true hab] at hless
  rw [decide_eq_false (by omega)] at heq
  have hcs := cs_mono a b (by omega)
  have hsz := M.sz_mono a b (by omega)
  have h1 : ((a : Int) == (b : Int)) = false := beq_eq_false_iff_ne.2 (by omega)
  have h2 : decide (b < a) = false := by simp; omega
  have h3 : ¬ b < a := by omega
  have e8 : kk 8 = 8 := kk8
  have E8 := Lib.hid e8
  clear e8
  generalize hsa : strB (M.beB a 8) = sa at *
  generalize hsb : strB (M.beB b 8) = sb at *
  have HSA := Lib.hid hsa
  have HSB := Lib.hid hsb
  clear hsa hsb
  go_enter Try.func8, Try.ntmps8
  go_wp2_with fail
  refine (head_any _).mono ?_
  rintro e w1 ⟨rfl, hb1⟩
  go_wp2_with fail
  refine (putBig_nil a ha 8 _).mono ?_
  rintro e w2 ⟨A2, c2, rfl, _, hr2, hb2⟩
  rw [E8.out] at hr2 ⊢
  have hq2 := conv_of c2 hr2
  rw [HSA.out] at hq2
  clear hr2
  go_wp2_with fail
  refine (putBig_nil b hb 8 _).mono ?_
  rintro e w3 ⟨A3, c3, rfl, _, hr3, hb3⟩
  rw [E8.out] at hr3 ⊢
  have hq3 := conv_of c3 hr3
  rw [HSB.out] at hq3
  clear hr3 hq2
  have hb13 : Below w.heap.size w w3 := (hb1.trans (hb2.mono hb1.size)).trans (hb3.mono (Nat.le_trans hb1.size hb2.size))
  go_wp2_with fail
  clear hq3
  refine (size_any _ (by omega) (by omega) _).mono ?_
  rintro e w4 ⟨rfl, rfl⟩
  rw [Int.toNat_natCast]
  go_wp2_with fail
  refine (size_any _ (by omega) (by omega) _).mono ?_
  rintro e w4 ⟨rfl, rfl⟩
  rw [Int.toNat_natCast]
  go_wp2_with fail
  refine (compact_nil a ha _).mono ?_
  rintro e w5 ⟨A5, c5, rfl, _, _, hb5⟩
  go_wp2_with fail
  refine (compact_nil b hb _).mono ?_
  rintro e w6 ⟨A6, c6, rfl, _, _, hb6⟩
  go_wp2
  go_ret
  exact ⟨rfl, (hb13.trans (hb5.mono hb13.size)).trans (hb6.mono (Nat.le_trans hb13.size hb5.size))⟩

set_option maxHeartbeats 1000000 in
set_option maxRecDepth 100000 in
theorem orders_eq (a : Nat) (ha : (a : Int) ≤ 18446744073709551615) (w : World) :
    Calls Try.prog 8 #[.int .u64 (a : Int), .int .u64 (a : Int)] w fun e w' => e = .returned (.bool true) ∧ Below w.heap.size w w' := by
  have hless := less_beB a a (by omega) (by omega)
  rw [decide_eq_false (by omega)] at hless
  have e8 : kk 8 = 8 := kk8
  have E8 := Lib.hid e8
  clear e8
  generalize hsa : strB (M.beB a 8) = sa at *
  have HSA := Lib.hid hsa
  have HSB := HSA
  clear hsa
  go_enter Try.func8, Try.ntmps8
  go_wp2_with fail
  refine (head_any _).mono ?_
  rintro e w1 ⟨rfl, hb1⟩
  go_wp2_with fail
  refine (putBig_nil a ha 8 _).mono ?_
  rintro e w2 ⟨A2, c2, rfl, _, hr2, hb2⟩
  rw [E8.out] at hr2 ⊢
  have hq2 := conv_of c2 hr2
  rw [HSA.out] at hq2
  clear hr2
  go_wp2_with fail
  refine (putBig_nil a ha 8 _).mono ?_
  rintro e w3 ⟨A3, c3, rfl, _, hr3, hb3⟩
  rw [E8.out] at hr3 ⊢
  have hq3 := conv_of c3 hr3
  rw [HSB.out] at hq3
  clear hr3 hq2
  have hb13 : Below w.heap.size w w3 := (hb1.trans (hb2.mono hb1.size)).trans (hb3.mono (Nat.le_trans hb1.size hb2.size))
  go_wp2_with fail
  clear hq3
  refine (size_any _ (by omega) (by omega) _).mono ?_
  rintro e w4 ⟨rfl, rfl⟩
  rw [Int.toNat_natCast]
  go_wp2_with fail
  refine (size_any _ (by omega) (by omega) _).mono ?_
  rintro e w4 ⟨rfl, rfl⟩
  rw [Int.toNat_natCast]
  go_wp2_with fail
  refine (compact_nil a ha _).mono ?_
  rintro e w5 ⟨A5, c5, rfl, _, _, hb5⟩
  go_wp2_with fail
  refine (compact_nil a ha _).mono ?_
  rintro e w6 ⟨A6, c6, rfl, _, _, hb6⟩
  go_wp2
  go_ret
  exact ⟨rfl, (hb13.trans (hb5.mono hb13.size)).trans (hb6.mono (Nat.le_trans hb13.size hb5.size))⟩

set_option maxHeartbeats 1000000 in
set_option maxRecDepth 100000 in
theorem orders_gt (a b : Nat) (ha : (a : Int) ≤ 18446744073709551615) (hb : (b : Int) ≤ 18446744073709551615) (hab : b < a) (w : World) :
    Calls Try.prog 8 #[.int .u64 (a : Int), .int .u64 (b : Int)] w fun e w' => e = .returned (.bool true) ∧ Below w.heap.size w w' := by
  have hless := less_beB a b (by omega) (by omega)
  have heq := eq_beB a b (by omega) (by omega)
  rw [decide_eq_false (by omega)] at hless heq
  have h1 : ((a : Int) == (b : Int)) = false := beq_eq_false_iff_ne.2 (by omega)
  have h2 : decide (a < b) = false := by simp; omega
  have e8 : kk 8 = 8 := kk8
  have E8 := Lib.hid e8
  clear e8
  generalize hsa : strB (M.beB a 8) = sa at *
  generalize hsb : strB (M.beB b 8) = sb at *
  have HSA := Lib.hid hsa
  have HSB := Lib.hid hsb
  clear hsa hsb
  go_enter Try.func8, Try.ntmps8
  go_wp2_with fail
  refine (head_any _).mono ?_
  rintro e w1 ⟨rfl, hb1⟩
  go_wp2_with fail
  refine (putBig_nil a ha 8 _).mono ?_
  rintro e w2 ⟨A2, c2, rfl, _, hr2, hb2⟩
  rw [E8.out] at hr2 ⊢
  have hq2 := conv_of c2 hr2
  rw [HSA.out] at hq2
  clear hr2
  go_wp2_with fail
  refine (putBig_nil b hb 8 _).mono ?_
  rintro e w3 ⟨A3, c3, rfl, _, hr3, hb3⟩
  rw [E8.out] at hr3 ⊢
  have hq3 := conv_of c3 hr3
  rw [HSB.out] at hq3
  clear hr3 hq2
  have hb13 : Below w.heap.size w w3 := (hb1.trans (hb2.mono hb1.size)).trans (hb3.mono (Nat.le_trans hb1.size hb2.size))
  go_wp2_with fail
  go_ret
  exact ⟨rfl, hb13⟩
end Go.Proofs.Ytkbdmbefhndlcaa
