/- The walk of PageWhole. -/
import Derived.Test.YtalcdmpjpphopaaPH
import Derived.Test.YtalcdmpjpphopaaPI
import Derived.Laws.Concat
namespace Go.Proofs.Ytalcdmpjpphopaa
set_option linter.unusedSimpArgs false
set_option linter.unusedVariables false
open Go.RowKit

theorem i64_and63 (n : Int) : bits .and .i64 n 63 = n % 64 := by
  have h63 : (BitVec.ofInt 64 63).toNat = 2 ^ 6 - 1 := by decide
  have key : (BitVec.ofInt 64 n &&& BitVec.ofInt 64 63).toNat = (n % ((2 ^ 64 : Nat) : Int)).toNat % 2 ^ 6 := by
    rw [BitVec.toNat_and, BitVec.toNat_ofInt, h63, Nat.and_two_pow_sub_one_eq_mod]
  show IntKind.i64.wrap ((BitVec.ofInt 64 n &&& BitVec.ofInt 64 63).toNat : Nat) = n % 64
  rw [key, IntKind.wrap_i64]
  omega
theorem i64_and15 (n : Int) : bits .and .i64 n 15 = n % 16 := by
  have h63 : (BitVec.ofInt 64 15).toNat = 2 ^ 4 - 1 := by decide
  have key : (BitVec.ofInt 64 n &&& BitVec.ofInt 64 15).toNat = (n % ((2 ^ 64 : Nat) : Int)).toNat % 2 ^ 4 := by
    rw [BitVec.toNat_and, BitVec.toNat_ofInt, h63, Nat.and_two_pow_sub_one_eq_mod]
  show IntKind.i64.wrap ((BitVec.ofInt 64 n &&& BitVec.ofInt 64 15).toNat : Nat) = n % 16
  rw [key, IntKind.wrap_i64]
  omega
/-- The length of what is made of the first i, 0 ahead of all. -/
def szW (l i : Nat) : Nat := if i = 0 then 0 else (mk (lstW l i)).1.length
theorem szW_lt (l i : Nat) (hl : l ≤ 16) (hi : i < 64) : szW l i < (mk (lstW l (i + 1))).1.length := by
  have h := mkW_grow l i hl hi
  unfold szW
  split <;> omega

theorem les_at : ∀ (l : List Nat) (i a : Nat), l[i]? = some a → ∃ rest, (les l).drop (4 * i) = M.leB a 4 ++ rest
  | [], i, a, h => by simp at h
  | x :: r, 0, a, h => by simp at h; subst h; exact ⟨les r, rfl⟩
  | x :: r, i + 1, a, h => by
    obtain ⟨rest, k⟩ := les_at r i a (by simpa using h)
    refine ⟨rest, ?_⟩
    rw [les, List.drop_append, List.drop_eq_nil_of_le (by rw [M.leB_len]; omega), M.leB_len, List.nil_append, show 4 * (i + 1) - 4 = 4 * i by omega, k]

set_option maxHeartbeats 8000000 in
set_option maxRecDepth 100000 in
theorem whole_walk (n l : Int) (w : World) : Calls Try.prog 8 #[.int .i64 n, .int .i64 l] w fun e w' => e = .returned (.bool true) ∧ Below w.heap.size w w' := by
  obtain ⟨X, hX, hx⟩ : ∃ X : Nat, X < 64 ∧ bits .and .i64 n 63 = (X : Int) := ⟨(n % 64).toNat, by omega, by rw [i64_and63]; omega⟩
  obtain ⟨Y, hY, hy⟩ : ∃ Y : Nat, Y < 16 ∧ bits .and .i64 l 15 = (Y : Int) := ⟨(l % 16).toNat, by omega, by rw [i64_and15]; omega⟩
  obtain ⟨N, hN⟩ : ∃ N, N = 1 + X := ⟨_, rfl⟩
  obtain ⟨Z, hM⟩ : ∃ Z, Z = 1 + Y := ⟨_, rfl⟩
  have hNi : (1 : Int) + (X : Int) = (N : Int) := by omega
  have hMi : (1 : Int) + (Y : Int) = (Z : Int) := by omega
  have hN64 : N ≤ 64 := by omega
  have hM16 : Z ≤ 16 := by omega
  clear hN hM
  go_enter Try.func8, Try.ntmps8
  go_upto_region 3 with (go_at_call 9; refine (head_any _).mono ?_; rintro e w1 ⟨rfl, hb1⟩)
  have HB1 := Lib.hid hb1
  clear hb1
  go_upto_region 8 with fail
  clear hx hy hX hY hNi hMi
  obtain ⟨w0, hw0⟩ : ∃ w0, w0 = w1.alloc (.cells #[] 30) := ⟨_, rfl⟩
  rw [← hw0]
  have b0 : Below w1.heap.size w1 w0 := by rw [hw0]; exact (Below.refl _ _).alloc (Nat.le_refl _) _
  have hown0 : w0.ownsRow w.heap.size 30 2 (.slice (some ⟨w1.heap.size, 0, none⟩) 0 0) 0 [] := by
    rw [hw0]
    exact ownN_base (World.ownsRow_lit (e := 30) (size := 2) w1 #[] 0 (Nat.le_refl _) (by unfold maxLen; omega) rfl) HB1.out.size
  have HB0 := Lib.hid (HB1.out.trans (b0.mono HB1.out.size))
  clear hw0 b0 HB1
  go_loopg [5, 6, 7] N (fun kx v5 v6 v7 wr => ∃ i : Nat, i ≤ N ∧ N - i ≤ kx ∧ v7 = .int .i64 (i : Int) ∧ v6 = .int .i64 ((szW Z i : Nat) : Int) ∧ wr.ownsRow w.heap.size 30 2 v5 i (prC2 (lstW Z i)) ∧ Hid (Below w.heap.size w wr))
  case atStart => exact ⟨0, Nat.zero_le _, by omega, rfl, rfl, hown0, HB0⟩
  case round =>
    obtain ⟨i, hiN, hkx, rfl, rfl, hown, HW⟩ := hrel
    have HOWN := Lib.hid hown
    have HX := Lib.hid hkx
    clear hown hkx hown0 HB0
    by_cases hlt : i < N
    · have hlt' : (i : Int) < (N : Int) := by omega
      obtain ⟨q, hq⟩ : ∃ q, q = i / 26 := ⟨_, rfl⟩
      obtain ⟨r, hr⟩ : ∃ r, r = i % 26 := ⟨_, rfl⟩
      have hqi : (i : Int) / 26 = (q : Int) := by omega
      have hri : (i : Int) % 26 = (r : Int) := by omega
      have hq3 : (q : Int) ≤ 2 := by omega
      have hr26 : (r : Int) < 26 := by omega
      have hi64 : (i : Int) < 64 := by omega
      obtain ⟨a, ha⟩ : ∃ a, a = 97 + q := ⟨_, rfl⟩
      obtain ⟨b, hb⟩ : ∃ b, b = 97 + r := ⟨_, rfl⟩
      have hai : (97 : Int) + (q : Int) = (a : Int) := by omega
      have hbi : (97 : Int) + (r : Int) = (b : Int) := by omega
      have ha2 : (a : Int) < 256 := by omega
      have hb2 : (b : Int) < 256 := by omega
      have HHD : Hid (hdW i = [107, 101, 121, a, b]) := Lib.hid (by unfold hdW; rw [ha, hb, hq, hr])
      obtain ⟨wq, hwq⟩ : ∃ wq, wq = wr.alloc (.cells #[.int .u8 (a : Int), .int .u8 (b : Int)] 5) := ⟨_, rfl⟩
      have hconv := run_conv (P := Try.prog) (w := wq) (B := wq.heap.size) (A := some ⟨wr.heap.size, 0, none⟩) (n := 2) (bs := [a, b]) 2 ⟨rfl, fun _ => ⟨wr.heap.size, 0, rfl, by rw [hwq]; simp, fun j u hu => by
        rw [hwq, Nat.zero_add, World.cell?_alloc_mark]
        simpa [bys] using hu⟩⟩ 25 9 5 Try.underlying25 Try.underlying5 Try.underlying9
      have HBq : Hid (Below wr.heap.size wr wq) := Lib.hid (by rw [hwq]; exact (Below.refl _ _).alloc (Nat.le_refl _) _)
      rw [hwq] at hconv
      clear hq hr ha hb
      go_upto_region 12 with fail
      rw [← hwq]
      have hS0 : (⟨#[107, 101, 121]⟩ : ByteArray) ++ strB [a, b] = strB (hdW i ++ List.replicate 0 120) := by
        rw [show (⟨#[107, 101, 121]⟩ : ByteArray) = strB [107, 101, 121] from rfl, strB_app, HHD.out]; rfl
      rw [hS0]
      clear hS0 hconv hwq hqi hri hai hbi ha2 hb2 hq3 hr26
      go_loopg [8, 9] Z (fun ky v8 v9 wx => ∃ k : Nat, k ≤ Z ∧ Z - k ≤ ky ∧ v9 = .int .i64 (k : Int) ∧ v8 = .string (strB (hdW i ++ List.replicate k 120)) ∧ wq = wx)
      case atStart => exact ⟨0, Nat.zero_le _, by omega, rfl, rfl, rfl⟩
      case round =>
        obtain ⟨k, hkM, hky, rfl, rfl, rfl⟩ := hrel
        have HY := Lib.hid hky
        clear hky
        by_cases hkl : k < Z
        · have hkl' : (k : Int) < (Z : Int) := by omega
          have hSk : strB (hdW i ++ List.replicate k 120) ++ (⟨#[120]⟩ : ByteArray) = strB (hdW i ++ List.replicate (k + 1) 120) := by
            rw [show (⟨#[120]⟩ : ByteArray) = strB [120] from rfl, strB_app, List.append_assoc, List.replicate_succ']
          have hadd : ∀ W : World, (Op.stringOp .add (strB (hdW i ++ List.replicate k 120)) (⟨#[120]⟩ : ByteArray)).run Try.prog W = .ok (.string (strB (hdW i ++ List.replicate (k + 1) 120))) W := fun W => by
            rw [← hSk]
            exact run_string_add_sum W _ _ (by rw [strB_size]; simp [hdW, ByteArray.size]; omega)
          obtain ⟨S2, hS2⟩ : ∃ S2, S2 = strB (hdW i ++ List.replicate (k + 1) 120) := ⟨_, rfl⟩
          rw [← hS2] at hadd
          have HS2 := Lib.hid hS2
          clear hSk hS2
          generalize strB (hdW i ++ List.replicate k 120) = Sk at *
          go_wp2
          go_roundg (Z - (k + 1))
          case measure => have := HY.out; omega
          case rel => exact ⟨k + 1, by omega, Nat.le_refl _, by go_num, by rw [HS2.out], rfl⟩
        · have hkl' : ¬ (k : Int) < (Z : Int) := by omega
          obtain rfl : Z = k := by omega
          clear HY
          obtain ⟨S, hS⟩ : ∃ S, S = strB (nmW Z i) := ⟨_, rfl⟩
          rw [show strB (hdW i ++ List.replicate Z 120) = S from hS.symm]
          have ho1 := ownN_below HOWN.out HBq.out (fun k hk => (HOWN.out.lt k hk).2)
          have hbq : w.heap.size ≤ wq.heap.size := Nat.le_trans HW.out.size HBq.out.size
          obtain ⟨v5, w5, run5, own5, gr5, loc5⟩ := app_pr wq w.heap.size _ i (lstW Z i) ho1 (prW Z i) (by omega) hbq
          rw [← lstW_succ] at own5
          have HRUN := Lib.hid run5
          have HLIT : Hid ((Instr.buildSlice 22 1 #[(0, .agg #[.string S, .string ⟨#[118]⟩])]).run Try.prog wq = .ok (.slice (some ⟨wq.heap.size, 0, none⟩) 1 1) (wq.alloc (.cells (prC2 [prW Z i]).toArray 30))) := Lib.hid (by
            rw [hS]; exact lit_pr wq (prW Z i) _ rfl)
          have HB5 : Hid (Below w.heap.size w w5) := Lib.hid ((HW.out.trans (HBq.out.mono HW.out.size)).trans ((Below.refl _ _).grown gr5 hbq (fun k hk => (ho1.lt k hk).1)))
          have HO5 := Lib.hid own5
          have hle := HB5.out.size
          obtain ⟨A5, c5, rfl, hc5, _, hr5⟩ := own_rdN own5
          have hl5 := lstW_len Z (i + 1)
          have HMK := Lib.hid (make_any A5 c5 (lstW Z (i + 1)) w5 (by rw [hl5]; exact hr5) (fun p hp => by
            obtain ⟨j, hj, rfl⟩ := List.mem_map.1 hp
            exact okW Z j hM16 (by have := List.mem_range.1 hj; omega)) (by rw [hl5]; omega))
          rw [hl5, mkW_ok Z (i + 1) hM16 (by omega)] at HMK
          have HLT := Lib.hid (szW_lt Z i hM16 (by omega))
          have HSZ : Hid (szW Z (i + 1) = (mk (lstW Z (i + 1))).1.length) := Lib.hid (by unfold szW; rw [if_neg (by omega)])
          generalize (mk (lstW Z (i + 1))).1 = bs at *
          clear ho1 run5 gr5 loc5 own5 hr5 hl5 hS hbq
          go_upto_region 16 with (first
            | (refine arm_build1 22 (.tmp 51) (v' := ?_) (w' := ?_) ?hr ?_; case hr => exact HLIT.out)
            | (refine arm_append 22 (.tmp 49) (.tmp 52) (v' := ?_) (w' := ?_) ?hr2 ?_; case hr2 => exact HRUN.out))
          go_wp2_with fail
          refine HMK.out.mono ?_
          rintro e w6 ⟨v6, rfl, hf6, hb6⟩
          obtain ⟨A6, c6, rfl, hm6, hr6⟩ := hf6.slice
          have HO6 := Lib.hid (ownN_below HO5.out hb6 (fun k hk => (HO5.out.lt k hk).2))
          have HB6 := Lib.hid (HB5.out.trans (hb6.mono HB5.out.size))
          have hlt6 : ((szW Z i : Nat) : Int) < (bs.length : Int) := by have := HLT.out; omega
          clear hf6 hm6 hr6 hb6
          generalize bs.length = m6 at *
          go_wp2
          go_roundg (N - (i + 1))
          case measure => have := HX.out; omega
          case rel => exact ⟨i + 1, by omega, Nat.le_refl _, by go_num, by rw [HSZ.out], HO6.out, HB6⟩
    · obtain rfl : N = i := by omega
      have hNN : ¬ (N : Int) < (N : Int) := by omega
      have HT := Lib.hid HOWN.out
      obtain ⟨A5, c5, rfl, hc5, _, hr5⟩ := own_rdN HOWN.out
      have hl5 := lstW_len Z N
      have hr5' : RdN wr wr.heap.size 2 A5 (lstW Z N).length (prC2 (lstW Z N)) := by rw [hl5]; exact hr5
      have HMK := Lib.hid (make_any A5 c5 (lstW Z N) wr hr5' (fun p hp => by
        obtain ⟨j, hj, rfl⟩ := List.mem_map.1 hp
        exact okW Z j hM16 (by have := List.mem_range.1 hj; omega)) (by rw [hl5]; omega))
      have HMW := Lib.hid (mkW_bytes Z N hM16 hN64)
      have HMB := Lib.hid (mk_bytes (lstW Z N) (fun p hp => by
        obtain ⟨j, hj, rfl⟩ := List.mem_map.1 hp
        exact okW Z j hM16 (by have := List.mem_range.1 hj; omega)))
      rw [hl5, mkW_ok Z N hM16 hN64] at HMK
      have HR5 := Lib.hid hr5'
      clear hr5 hr5' hl5
      generalize (mk (lstW Z N)).1 = bs at *
      go_upto_region 20 with fail
      go_wp2_with fail
      refine HMK.out.mono ?_
      rintro e w6 ⟨v6, rfl, hf6, hb6⟩
      have hq7 : ∃ A7 c7, v6 = .slice A7 bs.length c7 ∧ bs.length ≤ c7 ∧ c7 ≤ maxLen ∧ Rd w6 w6.heap.size A7 bs.length (bys bs) := by
        obtain ⟨A, c, rfl, h1, h2⟩ := hf6.slice
        exact ⟨A, c, rfl, h1, hf6.cap_le, h2⟩
      obtain ⟨A7, c7, rfl, hm7, hc7, hr7⟩ := hq7
      have HR7 := Lib.hid hr7
      have HB6 := Lib.hid (HW.out.trans (hb6.mono HW.out.size))
      have HR6 := Lib.hid ((HR5.out.below hb6).up hb6.size)
      clear hf6 hr7 hb6 HMK
      go_upto_region 21 with fail
      obtain ⟨body, sts, hbs, hsc, hbl, hat⟩ := HMW.out
      obtain ⟨C, hC⟩ : ∃ C, C = sts.length := ⟨_, rfl⟩
      obtain ⟨m, hm⟩ : ∃ m, m = bs.length := ⟨_, rfl⟩
      obtain ⟨q, hq⟩ : ∃ q, q = body.length + 4 * C := ⟨_, rfl⟩
      have hmq : m = q + 4 := by rw [hm, hbs, hq, hC]; simp [les_len, M.leB_len]; omega
      have hC8 : (C : Int) ≤ 8 := by omega
      have hdq : bs.drop q = M.leB C 4 := by
        rw [hbs, ← hC]
        exact List.drop_left' (by rw [List.length_append, les_len, hq, hC])
      have hrq := HR7.out.drop q c7 (by omega) hm7
      rw [← bys_drop, hdq] at hrq
      rw [show bs.length - q = 4 by omega] at hrq
      have HLI := Lib.hid (little_any _ 4 (c7 - q) _ w6 w6.heap.size hrq (M.leB_lt C 4) (by omega))
      have hlv : M.lv (M.leB C 4) (min 4 8) = C := by
        have := M.lv_leB C 4 []
        rw [List.append_nil] at this
        rw [show min 4 8 = 4 from rfl, this]
        exact Nat.mod_eq_of_lt (by omega)
      rw [hlv] at HLI
      obtain ⟨i5, hi5, hy0, hy1, hy2⟩ := info_parts Try.info5
      have HSL0 := Lib.hid (fun W => run_slice_l (P := Try.prog) W 25 5 i5 Try.underlying25 hi5 hy1 A7 m c7 q (by omega) .i64 ((q : Nat) : Int) rfl)
      rw [show m - q = 4 by omega] at HSL0
      have hsl := HSL0.out
      have HHD := Lib.hid (show ∀ j a p : Nat, sts[j]? = some a → p = body.length + 4 * j → p ≤ m ∧ ∃ (A8 : Option Addr) (l8 c8 c9 : Nat), (∀ W, (Instr.slice 25 (.slice A7 m c7) (some (.int .i64 (p : Int))) none none).run Try.prog W = .ok (.slice A8 l8 c8) W) ∧ (∀ W, (Instr.slice 25 (.slice A8 l8 c8) none (some (.int .i64 4)) none).run Try.prog W = .ok (.slice A8 4 c9) W) ∧ ∀ W, Below w6.heap.size w6 W → Calls Try.prog 22 #[.slice A8 4 c9] W (fun e w' => e = .returned (.int .u64 (a : Int)) ∧ W = w') from fun j a p ha hp => by
        subst hp
        obtain ⟨rest, hd⟩ := les_at sts j a ha
        have hj : j < C := by rw [hC]; exact (List.getElem?_eq_some_iff.1 ha).1
        have hab := (hat j a ha).1
        have hdp : bs.drop (body.length + 4 * j) = M.leB a 4 ++ (rest ++ M.leB C 4) := by
          rw [hbs, ← hC, List.append_assoc, List.drop_append, List.drop_eq_nil_of_le (by omega), List.nil_append, show body.length + 4 * j - body.length = 4 * j by omega, List.drop_append_of_le_length (by rw [les_len]; omega), hd, List.append_assoc]
        have hr1 := HR7.out.drop (body.length + 4 * j) c7 (by omega) hm7
        have hr2 := hr1.take 4 (by omega)
        rw [← bys_drop, hdp, ← bys_take, List.take_left' (M.leB_len a 4)] at hr2
        have hli := fun W (hb : Below w6.heap.size w6 W) => little_any _ 4 (c7 - (body.length + 4 * j)) _ W w6.heap.size (hr2.below hb) (M.leB_lt a 4) (by omega)
        have hlv : M.lv (M.leB a 4) (min 4 8) = a := by
          have := M.lv_leB a 4 []
          rw [List.append_nil] at this
          rw [show min 4 8 = 4 from rfl, this]
          exact Nat.mod_eq_of_lt (by omega)
        rw [hlv] at hli
        refine ⟨by omega, _, _, _, _, fun W => run_slice_l (P := Try.prog) W 25 5 i5 Try.underlying25 hi5 hy1 A7 m c7 (body.length + 4 * j) (by omega) .i64 _ rfl, fun W => run_slice_h (P := Try.prog) W 25 5 i5 Try.underlying25 hi5 hy1 _ _ _ 4 (by omega) .i64 4 rfl, hli⟩)
      have hmi : (m : Int) - 4 = (q : Int) := by omega
      have hm9 : (m : Int) ≤ 1000000 := by omega
      have hm4 : (4 : Int) ≤ (m : Int) := by omega
      have hNC : ((N : Int) + 7) / 8 = (C : Int) := by omega
      have HQ := Lib.hid hq
      have HAT := Lib.hid hat
      have HCC := Lib.hid hC
      have HHM := Lib.hid hm
      have HBS := Lib.hid hbs
      rw [← hm]
      generalize (if c7 = q then A7 else A7.map (·.add q)) = A8 at *
      generalize c7 - q = c8 at *
      clear hbs hsc hbl hat hC hm hq hdq hrq hlv HSL0 hi5 hy0 hy1 hy2
      have HMI := Lib.hid hmi
      have HMQ := Lib.hid hmq
      have HM9 := Lib.hid hm9
      have HM4 := Lib.hid hm4
      have HNC := Lib.hid hNC
      have HC8 := Lib.hid hC8
      have HM7 := Lib.hid hm7
      have HC7 := Lib.hid hc7
      clear hmq hm7 hc7 hNC hC8
      go_wp2_with fail
      refine HLI.out.mono ?_
      rintro e w' ⟨rfl, rfl⟩
      clear HLI hsl
      clear hmi hm9 hm4
      have hC8 := HC8.out
      have hNC := HNC.out
      have hNe : ((C : Int) != (C : Int)) = false := by simp
      go_upto_region 25 with fail
      clear hNC hNe
      go_loopg [15] C (fun kx v15 wx => ∃ j : Nat, j ≤ C ∧ C - j ≤ kx ∧ v15 = .int .i64 (j : Int) ∧ Hid (Below w6.heap.size w6 wx))
      case atStart => exact ⟨0, Nat.zero_le _, by omega, rfl, Lib.hid (Below.refl _ _)⟩
      case round =>
        obtain ⟨j, hjC, hjx, rfl, HWx⟩ := hrel
        have HJX := Lib.hid hjx
        clear hjx
        by_cases hjl : j < C
        · have hjl' : (j : Int) < (C : Int) := by omega
          have hjs : j < sts.length := by rw [← HCC.out]; exact hjl
          obtain ⟨a, ha⟩ : ∃ a, sts[j]? = some a := ⟨_, List.getElem?_eq_getElem hjs⟩
          obtain ⟨bd, hbd⟩ : ∃ bd, bd = body.length := ⟨_, rfl⟩
          obtain ⟨c4, hc4⟩ : ∃ c4, c4 = 4 * C := ⟨_, rfl⟩
          obtain ⟨j4, hj4⟩ : ∃ j4, j4 = 4 * j := ⟨_, rfl⟩
          obtain ⟨p, hp⟩ : ∃ p, p = bd + j4 := ⟨_, rfl⟩
          obtain ⟨hpm, A9, l9, c8, c9, hs1, hs2, hli⟩ := HHD.out j a p ha (by rw [hp, hbd, hj4])
          obtain ⟨hab, ha0, ha1, hjn⟩ := HAT.out j a ha
          obtain ⟨a1, ha1'⟩ : ∃ a1, a1 = a + 1 := ⟨_, rfl⟩
          obtain ⟨j8, hj8⟩ : ∃ j8, j8 = 8 * j := ⟨_, rfl⟩
          have hmqq := HMQ.out
          have hqq := HQ.out
          have hm9' := HM9.out
          have e1 : (m : Int) - 4 = (q : Int) := by omega
          have e2 : (4 : Int) * (C : Int) = (c4 : Int) := by omega
          have e3 : (q : Int) - (c4 : Int) = (bd : Int) := by omega
          have e4 : (4 : Int) * (j : Int) = (j4 : Int) := by omega
          have e5 : (bd : Int) + (j4 : Int) = (p : Int) := by omega
          have e6 : (a : Int) + 1 = (a1 : Int) := by omega
          have e7 : (8 : Int) * (j : Int) = (j8 : Int) := by omega
          have f1 : (q : Int) ≤ 1000000 := by omega
          have f2 : (c4 : Int) ≤ 32 := by omega
          have f3 : (bd : Int) ≤ 1000000 := by omega
          have f4 : (j4 : Int) ≤ 32 := by omega
          have f5 : (p : Int) ≤ 1000000 := by omega
          have f6 : (a : Int) ≤ 1000000 := by omega
          have f7 : (a1 : Int) ≤ 1000000 := by omega
          have f8 : (j8 : Int) ≤ 64 := by omega
          have hm8 : bs.length = m := HHM.out.symm
          have ham : a < m := by omega
          have ha1m : a1 < m := by omega
          have hj8n : j8 < N := by omega
          have hnp : ¬ m < p := by omega
          have hblk : body.length ≤ bs.length := by rw [HBS.out]; simp
          obtain ⟨g7, o7, rfl, hg7, hc7'⟩ := (HR7.out.below HWx.out).2 (by rw [hm8]; omega)
          have k0 := hc7' a _ (bys_get bs a (by omega))
          have k1 := hc7' a1 _ (bys_get bs a1 (by omega))
          have hb0 : bs.getD a 0 = 0 := by
            rw [HBS.out, List.append_assoc, List.getD_eq_getElem?_getD, List.getElem?_append_left (by omega), ← List.getD_eq_getElem?_getD]; exact ha0
          have hb1 : bs.getD a1 0 = 5 + Z := by
            rw [ha1', HBS.out, List.append_assoc, List.getD_eq_getElem?_getD, List.getElem?_append_left (by omega), ← List.getD_eq_getElem?_getD]; exact ha1
          rw [hb0] at k0
          rw [hb1] at k1
          obtain ⟨g5, o5, rfl, hg5, k2, _⟩ := (HR6.out.below HWx.out).pr j8 _ (lstW_at Z N j8 hj8n)
          obtain ⟨S, hS⟩ : ∃ S, S = strB (prW Z j8).1 := ⟨_, rfl⟩
          rw [← hS] at k2
          obtain ⟨z5, hz5⟩ : ∃ z5, z5 = 5 + Z := ⟨_, rfl⟩
          rw [← hz5] at k1
          have hSz : S.size = z5 := by rw [hS, strB_size, hz5]; exact nmW_len Z j8
          have hz21 : (z5 : Int) ≤ 21 := by omega
          have hw6 := HWx.out.size
          have HK : Hid (∀ wy, Below wr.heap.size wr wy → wy.cell? ⟨g7, o7 + a, none⟩ = some (.int .u8 ((0 : Nat) : Int)) ∧ wy.cell? ⟨g7, o7 + a1, none⟩ = some (.int .u8 (z5 : Int)) ∧ wy.cell? ⟨g5, o5 + j8 * 2, none⟩ = some (.string S)) := Lib.hid fun wy hb =>
            ⟨(hb.cell (p := ⟨g7, _, none⟩) (by show g7 < _; omega)).trans k0, (hb.cell (p := ⟨g7, _, none⟩) (by show g7 < _; omega)).trans k1, (hb.cell (p := ⟨g5, _, none⟩) (by show g5 < _; omega)).trans k2⟩
          have HLI2 := Lib.hid (hli _ HWx.out)
          have hsz9 : (S.size : Int) ≤ 1000000 := by omega
          clear hli ha hab ha0 ha1 hjn hpm hbd hc4 hj4 hp ha1' hj8 hmqq hqq hm9' hb0 hb1 k0 k1 k2 hc7' hS hz5 hblk hm8
          go_upto_region 27 with fail
          go_wp2_with fail
          refine HLI2.out.mono ?_
          rintro e w' ⟨rfl, rfl⟩
          clear e1 e2 e3 e4 e5 f1 f2 f3 f4 f5 hs1 hs2
          go_upto_region 28 with fail
          have hzz : ((z5 : Int) != (z5 : Int)) = false := by simp
          have hwa : IntKind.i64.wrap (a1 : Int) = (a1 : Int) := IntWalk.i64_in _ (by omega)
          have hwj : IntKind.i64.wrap (j8 : Int) = (j8 : Int) := IntWalk.i64_in _ (by omega)
          have hwz : IntKind.i64.wrap (z5 : Int) = (z5 : Int) := IntWalk.i64_in _ (by omega)
          refine wp_region_noPanic ?_
          refine wp_region_held_drew (S := (fun wy => Below wr.heap.size wr wy ∧ wy.cell? ⟨g7, o7 + a, none⟩ = some (.int .u8 ((0 : Nat) : Int)) ∧ wy.cell? ⟨g7, o7 + a1, none⟩ = some (.int .u8 (z5 : Int)) ∧ wy.cell? ⟨g5, o5 + j8 * 2, none⟩ = some (.string S))) (by kernel_rfl) (⟨(Below.refl _ _).drew, HK.out _ (Below.refl _ _).drew⟩) (fun hHeld => ?_)
          refine wpAnyH_take (i := 0) (v := ?_) (by simp only [List.getElem?_toArray, List.getElem?_cons_succ, List.getElem?_cons_zero]; rfl) (by kernel_rfl) (by kernel_rfl) (by kernel_rfl) (fun _ _ _ h => h) (Or.inl ⟨by rfl, ?_⟩) (by assumption) ?_
          rotate_left
          · (intro w hSw; (try dsimp only at hSw); go_simp; (try with_reducible rfl))
          (try simp only [Act.put, List.setIfInBounds_toArray, List.set_cons_zero, List.set_cons_succ])
          refine wpAnyH_take (i := 1) (v := ?_) (by simp only [List.getElem?_toArray, List.getElem?_cons_succ, List.getElem?_cons_zero]; rfl) (by kernel_rfl) (by kernel_rfl) (by kernel_rfl) (fun _ _ _ h => h) (Or.inl ⟨by rfl, ?_⟩) (by assumption) ?_
          rotate_left
          · (intro w hSw; (try dsimp only at hSw); go_simp; (try with_reducible rfl))
          (try simp only [Act.put, List.setIfInBounds_toArray, List.set_cons_zero, List.set_cons_succ])
          refine wpAnyH_take (i := 2) (v := ?_) (by simp only [List.getElem?_toArray, List.getElem?_cons_succ, List.getElem?_cons_zero]; rfl) (by kernel_rfl) (by kernel_rfl) (by kernel_rfl) (fun _ _ _ h => h) (Or.inl ⟨by rfl, ?_⟩) (by assumption) ?_
          rotate_left
          · (intro w hSw; (try dsimp only at hSw); go_simp; (try with_reducible rfl))
          (try simp only [Act.put, List.setIfInBounds_toArray, List.set_cons_zero, List.set_cons_succ])
          refine wpAnyH_take (i := 3) (v := ?_) (by simp only [List.getElem?_toArray, List.getElem?_cons_succ, List.getElem?_cons_zero]; rfl) (by kernel_rfl) (by kernel_rfl) (by kernel_rfl) (fun _ _ _ h => h) (Or.inl ⟨by rfl, ?_⟩) (by assumption) ?_
          rotate_left
          · (intro w hSw; (try dsimp only at hSw); go_simp; (try with_reducible rfl))
          (try simp only [Act.put, List.setIfInBounds_toArray, List.set_cons_zero, List.set_cons_succ])
          refine wpAnyH_take (i := 4) (v := ?_) (by simp only [List.getElem?_toArray, List.getElem?_cons_succ, List.getElem?_cons_zero]; rfl) (by kernel_rfl) (by kernel_rfl) (by kernel_rfl) (fun _ _ _ h => h) (Or.inl ⟨by rfl, ?_⟩) (by assumption) ?_
          rotate_left
          · (intro w hSw; (try dsimp only at hSw); go_simp; (try with_reducible rfl))
          (try simp only [Act.put, List.setIfInBounds_toArray, List.set_cons_zero, List.set_cons_succ])
          refine wpAnyH_take (i := 5) (v := ?_) (by simp only [List.getElem?_toArray, List.getElem?_cons_succ, List.getElem?_cons_zero]; rfl) (by kernel_rfl) (by kernel_rfl) (by kernel_rfl) (fun _ _ _ h => h) (Or.inl ⟨by rfl, ?_⟩) (by assumption) ?_
          rotate_left
          · (intro w hSw; (try dsimp only at hSw); go_simp; (try with_reducible rfl))
          (try simp only [Act.put, List.setIfInBounds_toArray, List.set_cons_zero, List.set_cons_succ])
          refine wpAnyH_take (i := 6) (v := ?_) (by simp only [List.getElem?_toArray, List.getElem?_cons_succ, List.getElem?_cons_zero]; rfl) (by kernel_rfl) (by kernel_rfl) (by kernel_rfl) (fun _ _ _ h => h) (Or.inl ⟨by rfl, ?_⟩) (by assumption) ?_
          rotate_left
          · (intro w hSw; (try dsimp only at hSw); go_simp; (try with_reducible rfl))
          (try simp only [Act.put, List.setIfInBounds_toArray, List.set_cons_zero, List.set_cons_succ])
          refine wpAnyH_take (i := 7) (v := ?_) (by simp only [List.getElem?_toArray, List.getElem?_cons_succ, List.getElem?_cons_zero]; rfl) (by kernel_rfl) (by kernel_rfl) (by kernel_rfl) (fun _ _ _ h => h) (Or.inl ⟨by rfl, ?_⟩) (by assumption) ?_
          rotate_left
          · (intro w hSw; (try dsimp only at hSw); go_simp; (try with_reducible rfl))
          (try simp only [Act.put, List.setIfInBounds_toArray, List.set_cons_zero, List.set_cons_succ])
          refine wpAnyH_take (i := 8) (v := ?_) (by simp only [List.getElem?_toArray, List.getElem?_cons_succ, List.getElem?_cons_zero]; rfl) (by kernel_rfl) (by kernel_rfl) (by kernel_rfl) (fun _ _ _ h => h) (Or.inl ⟨by rfl, ?_⟩) (by assumption) ?_
          rotate_left
          · (intro w hSw; (try dsimp only at hSw); go_simp; (try with_reducible rfl))
          (try simp only [Act.put, List.setIfInBounds_toArray, List.set_cons_zero, List.set_cons_succ])
          refine wpAnyH_take (i := 9) (v := ?_) (by simp only [List.getElem?_toArray, List.getElem?_cons_succ, List.getElem?_cons_zero]; rfl) (by kernel_rfl) (by kernel_rfl) (by kernel_rfl) (fun _ _ _ h => h) (Or.inl ⟨by rfl, ?_⟩) (by assumption) ?_
          rotate_left
          · (intro w hSw; (try dsimp only at hSw); go_simp; (try with_reducible rfl))
          (try simp only [Act.put, List.setIfInBounds_toArray, List.set_cons_zero, List.set_cons_succ])
          refine wpAnyH_take (i := 10) (v := ?_) (by simp only [List.getElem?_toArray, List.getElem?_cons_succ, List.getElem?_cons_zero]; rfl) (by kernel_rfl) (by kernel_rfl) (by kernel_rfl) (fun _ _ _ h => h) (Or.inl ⟨by rfl, ?_⟩) (by assumption) ?_
          rotate_left
          · (intro w hSw; (try dsimp only at hSw); go_simp; (try with_reducible rfl))
          (try simp only [Act.put, List.setIfInBounds_toArray, List.set_cons_zero, List.set_cons_succ])
          refine wpAnyH_take (i := 11) (v := ?_) (by simp only [List.getElem?_toArray, List.getElem?_cons_succ, List.getElem?_cons_zero]; rfl) (by kernel_rfl) (by kernel_rfl) (by kernel_rfl) (fun _ _ _ h => h) (Or.inl ⟨by rfl, ?_⟩) (by assumption) ?_
          rotate_left
          · (intro w hSw; (try dsimp only at hSw); go_simp; (try with_reducible rfl))
          (try simp only [Act.put, List.setIfInBounds_toArray, List.set_cons_zero, List.set_cons_succ])
          refine wpAnyH_take (i := 12) (v := ?_) (by simp only [List.getElem?_toArray, List.getElem?_cons_succ, List.getElem?_cons_zero]; rfl) (by kernel_rfl) (by kernel_rfl) (by kernel_rfl) (fun _ _ _ h => h) (Or.inl ⟨by rfl, ?_⟩) (by assumption) ?_
          rotate_left
          · (intro w hSw; (try dsimp only at hSw); go_simp; (try with_reducible rfl))
          (try simp only [Act.put, List.setIfInBounds_toArray, List.set_cons_zero, List.set_cons_succ])
          refine wpAnyH_take (i := 13) (v := ?_) (by simp only [List.getElem?_toArray, List.getElem?_cons_succ, List.getElem?_cons_zero]; rfl) (by kernel_rfl) (by kernel_rfl) (by kernel_rfl) (fun _ _ _ h => h) (Or.inl ⟨by rfl, ?_⟩) (by assumption) ?_
          rotate_left
          · (intro w hSw; (try dsimp only at hSw); go_simp; (try with_reducible rfl))
          (try simp only [Act.put, List.setIfInBounds_toArray, List.set_cons_zero, List.set_cons_succ])
          refine wpAnyH_take (i := 14) (v := ?_) (by simp only [List.getElem?_toArray, List.getElem?_cons_succ, List.getElem?_cons_zero]; rfl) (by kernel_rfl) (by kernel_rfl) (by kernel_rfl) (fun _ _ _ h => h) (Or.inl ⟨by rfl, ?_⟩) (by assumption) ?_
          rotate_left
          · (intro w hSw; (try dsimp only at hSw); go_simp; (try with_reducible rfl))
          (try simp only [Act.put, List.setIfInBounds_toArray, List.set_cons_zero, List.set_cons_succ])
          refine wpAnyH_take (i := 15) (v := ?_) (by simp only [List.getElem?_toArray, List.getElem?_cons_succ, List.getElem?_cons_zero]; rfl) (by kernel_rfl) (by kernel_rfl) (by kernel_rfl) (fun _ _ _ h => h) (Or.inl ⟨by rfl, ?_⟩) (by assumption) ?_
          rotate_left
          · (intro w hSw; (try dsimp only at hSw); go_simp; (try with_reducible rfl))
          (try simp only [Act.put, List.setIfInBounds_toArray, List.set_cons_zero, List.set_cons_succ])
          refine wpAnyH_take (i := 16) (v := ?_) (by simp only [List.getElem?_toArray, List.getElem?_cons_succ, List.getElem?_cons_zero]; rfl) (by kernel_rfl) (by kernel_rfl) (by kernel_rfl) (fun _ _ _ h => h) (Or.inl ⟨by rfl, ?_⟩) (by assumption) ?_
          rotate_left
          · (intro w hSw; (try dsimp only at hSw); go_simp; (try with_reducible rfl))
          (try simp only [Act.put, List.setIfInBounds_toArray, List.set_cons_zero, List.set_cons_succ])
          refine wpAnyH_take (i := 17) (v := ?_) (by simp only [List.getElem?_toArray, List.getElem?_cons_succ, List.getElem?_cons_zero]; rfl) (by kernel_rfl) (by kernel_rfl) (by kernel_rfl) (fun _ _ _ h => h) (Or.inl ⟨by rfl, ?_⟩) (by assumption) ?_
          rotate_left
          · (intro w hSw; (try dsimp only at hSw); go_simp; (try with_reducible rfl))
          (try simp only [Act.put, List.setIfInBounds_toArray, List.set_cons_zero, List.set_cons_succ])
          refine wpAnyH_take (i := 18) (v := ?_) (by simp only [List.getElem?_toArray, List.getElem?_cons_succ, List.getElem?_cons_zero]; rfl) (by kernel_rfl) (by kernel_rfl) (by kernel_rfl) (fun _ _ _ h => h) (Or.inl ⟨by rfl, ?_⟩) (by assumption) ?_
          rotate_left
          · (intro w hSw; (try dsimp only at hSw); go_simp; (try with_reducible rfl))
          (try simp only [Act.put, List.setIfInBounds_toArray, List.set_cons_zero, List.set_cons_succ])
          refine wpAnyH_take (i := 19) (v := ?_) (by simp only [List.getElem?_toArray, List.getElem?_cons_succ, List.getElem?_cons_zero]; rfl) (by kernel_rfl) (by kernel_rfl) (by kernel_rfl) (fun _ _ _ h => h) (Or.inl ⟨by rfl, ?_⟩) (by assumption) ?_
          rotate_left
          · (intro w hSw; (try dsimp only at hSw); go_simp; (try with_reducible rfl))
          (try simp only [Act.put, List.setIfInBounds_toArray, List.set_cons_zero, List.set_cons_succ])
          refine wpAnyH_take (i := 20) (v := ?_) (by simp only [List.getElem?_toArray, List.getElem?_cons_succ, List.getElem?_cons_zero]; rfl) (by kernel_rfl) (by kernel_rfl) (by kernel_rfl) (fun _ _ _ h => h) (Or.inl ⟨by rfl, ?_⟩) (by assumption) ?_
          rotate_left
          · (intro w hSw; (try dsimp only at hSw); go_simp; (try with_reducible rfl))
          (try simp only [Act.put, List.setIfInBounds_toArray, List.set_cons_zero, List.set_cons_succ])
          refine wpAnyH_done (by kernel_rfl) ?_ _
          refine NoPanic.normal ?_
          clear hwa hwj hwz
          have HW9 := Lib.hid (HWx.out.trans (hHeld.1.mono hw6))
          clear hHeld
          go_wp2
          go_roundg (C - (j + 1))
          case measure => have := HJX.out; omega
          case rel => exact ⟨j + 1, by omega, Nat.le_refl _, by go_num, HW9⟩
        · have hjl' : ¬ (j : Int) < (C : Int) := by omega
          go_wp2
          go_ret
          exact ⟨rfl, HB6.out.trans (HWx.out.mono HB6.out.size)⟩
end Go.Proofs.Ytalcdmpjpphopaa
