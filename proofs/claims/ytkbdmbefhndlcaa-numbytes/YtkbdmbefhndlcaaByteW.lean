/- The walk of NumBytes. -/
import Derived.Test.YtkbdmbefhndlcaaW7
import Derived.Lib.SlBytesConst
import Derived.Deep.RegionHeld3
import Derived.IntWalk
import Derived.Deep.DeepCutAuto
namespace Go.Proofs.Ytkbdmbefhndlcaa
set_option linter.unusedSimpArgs false
set_option linter.unusedVariables false
open Go.RowKit

/-- The number of the last j of k bytes, the lowest first. -/
def lowR (bs : List Nat) (k : Nat) : Nat → Nat
  | 0 => 0
  | j + 1 => lowR bs k j * 256 + bs.getD (k - 1 - j) 0

theorem lowR_eq (bs : List Nat) (hb : ∀ c ∈ bs, c < 256) (k j : Nat) (h : j ≤ k) : lowR bs k j = M.lv bs k / 256 ^ (k - j) := by
  induction j with
  | zero => rw [Nat.sub_zero, Nat.div_eq_of_lt (M.lv_lt bs hb k)]; rfl
  | succ j ih =>
    rw [lowR, ih (by omega)]
    have e1 : k - j = (k - (j + 1)) + 1 := by omega
    have e2 : M.lv bs k / 256 ^ (k - (j + 1)) % 256 = bs.getD (k - (j + 1)) 0 := M.lv_digit bs hb k _ (by omega)
    rw [show k - 1 - j = k - (j + 1) by omega, ← e2, e1, Nat.pow_succ, ← Nat.div_div_eq_div_mul]
    omega
theorem lowR_all (bs : List Nat) (hb : ∀ c ∈ bs, c < 256) (k : Nat) : lowR bs k k = M.lv bs k := by
  rw [lowR_eq bs hb k k (Nat.le_refl _), Nat.sub_self, Nat.pow_zero, Nat.div_one]
theorem lowR_lt (bs : List Nat) (hb : ∀ c ∈ bs, c < 256) (k j : Nat) : lowR bs k j < 256 ^ j := by
  induction j with
  | zero => simp [lowR]
  | succ j ih =>
    have h := M.getD_lt hb (k - 1 - j)
    rw [lowR, Nat.pow_succ]
    omega

set_option maxHeartbeats 1000000 in
set_option maxRecDepth 100000 in
theorem bytes_long (A : Option Addr) (n c : Nat) (x s : Int) (w : World) (h300 : (300 : Int) < n) :
    Calls Try.prog 7 #[.slice A n c, .int .u64 x, .int .i64 s] w fun e w' => e = .returned (.bool true) ∧ Below w.heap.size w w' := by
  go_enter Try.func7, Try.ntmps7
  go_wp2_with fail
  refine (head_any _).mono ?_
  rintro e w1 ⟨rfl, hb1⟩
  go_wp2_with fail
  go_ret
  exact ⟨rfl, hb1⟩

set_option maxHeartbeats 1000000 in
set_option maxRecDepth 100000 in
theorem bytes_few (A : Option Addr) (n c : Nat) (bs : List Nat) (X : Nat) (hX : (X : Int) ≤ 18446744073709551615) (s : Int) (w : World) (hr : Rd w w.heap.size A n (bys bs)) (hb : ∀ c ∈ bs, c < 256) (hlen : bs.length = n) (h300 : (n : Int) ≤ 300) (hc : n ≤ c) (hk : n ≤ 8) :
    Calls Try.prog 7 #[.slice A n c, .int .u64 (X : Int), .int .i64 s] w fun e w' => e = .returned (.bool true) ∧ Below w.heap.size w w' := by
  have hd : decide (300 < (n : Int)) = false := by simp; omega
  have HL := Lib.hid hlen
  clear hlen
  have kc := fun (w : World) (C : Array Value) (n c : Nat) => Lib.run_convert_bytes_const (P := Try.prog) w 23 5 C n c Try.underlying23 Try.underlying5
  go_enter Try.func7, Try.ntmps7
  go_wp2_with fail
  refine (head_any _).mono ?_
  rintro e w1 ⟨rfl, hb1⟩
  have hr1 := hr.below hb1
  go_wp2_with fail
  go_loop [8, 9, 10] (fun lo hi i => ∃ j : Nat, j ≤ n ∧ i = .int .i64 j ∧ lo = .int .u64 (lowR bs (n) j : Int) ∧ hi = .int .u64 (M.bv bs j : Int)) (fun _ _ i => 8 - (intOf i).toNat)
  case atStart => exact ⟨0, Nat.zero_le _, rfl, rfl, rfl⟩
  case round =>
    obtain ⟨j, hj, rfl, rfl, rfl⟩ := hrel
    by_cases hlt : j < n
    · have hj8 : j ≤ 7 := by omega
      obtain ⟨g, off, u, rfl, hgB, hu, hcell⟩ := hr1.at_ (k := j) (by omega)
      rw [bys_get bs j (by rw [HL.out]; omega)] at hu
      injection hu with hu
      subst hu
      obtain ⟨g', off', u', eg, hgB', hu', hcell'⟩ := hr1.at_ (k := n - 1 - j) (by omega)
      injection eg with eg
      injection eg with eg1 eg2
      subst eg1
      subst eg2
      rw [bys_get bs _ (by rw [HL.out]; omega)] at hu'
      injection hu' with hu'
      subst hu'
      have h2 : 256 ^ j ≤ 256 ^ 7 := Nat.pow_le_pow_right (by decide) hj8
      have e7 : (256 : Nat) ^ 7 = 72057594037927936 := by decide
      have b1 := lowR_lt bs hb (n) j
      have b2 := M.bv_lt bs hb j
      have c1 := M.getD_lt hb j
      have c2 := M.getD_lt hb (n - 1 - j)
      have b1' : ((lowR bs (n) j : Nat) : Int) ≤ 72057594037927935 := by omega
      have b2' : ((M.bv bs j : Nat) : Int) ≤ 72057594037927935 := by omega
      have c1' : ((bs.getD j 0 : Nat) : Int) ≤ 255 := by omega
      have c2' : ((bs.getD (n - 1 - j) 0 : Nat) : Int) ≤ 255 := by omega
      clear h2 e7 b1 b2
      have H1 := Lib.hid (show lowR bs (n) (j + 1) = lowR bs (n) j * 256 + bs.getD (n - 1 - j) 0 from rfl)
      have H2 := Lib.hid (show M.bv bs (j + 1) = M.bv bs j * 256 + bs.getD j 0 from rfl)
      generalize lowR bs (n) j = lo at *
      generalize M.bv bs j = hi at *
      generalize bs.getD j 0 = x1 at *
      generalize bs.getD (n - 1 - j) 0 = x2 at *
      have hlt' : (j : Int) < (n : Int) := by omega
      have hjn : (j : Int) < (n : Int) := by omega
      have hkn : (n : Int) ≤ (n : Int) := by omega
      have hjI : (j : Int) ≤ 7 := by omega
      go_wp2
      go_round
      case rel =>
        refine ⟨j + 1, by omega, by go_num, ?_, ?_⟩
        · rw [H1.out]; go_num
        · rw [H2.out]; go_num
      case measure => simp [intOf]; omega
    · obtain rfl : n = j := by omega
      have hlt' : decide ((n : Int) < (n : Int)) = false := by simp
      have hl2 := M.leB_lv bs hb (n) (by rw [HL.out]; omega)
      have hb2 := M.beB_bv bs hb (n) (by rw [HL.out]; omega)
      rw [lowR_all bs hb]
      have rbk : Rd w1 w.heap.size A (n) (bys (bs.take (n))) := by rw [bys_take]; exact hr1.take _ (by omega)
      have hlv : M.lv bs (min n 8) = M.lv bs (n) := by congr 1; omega
      have hbv : M.bv bs (min n 8) = M.bv bs (n) := by congr 1; omega
      have bl : ((M.lv bs (n) : Nat) : Int) ≤ 18446744073709551615 := by
        have h1 := M.lv_lt bs hb (n)
        have h2 : 256 ^ (n) ≤ 256 ^ 8 := Nat.pow_le_pow_right (by decide) (by omega)
        have e : (256 : Nat) ^ 8 = 18446744073709551616 := by decide
        omega
      have bh : ((M.bv bs (n) : Nat) : Int) ≤ 18446744073709551615 := by
        have h1 := M.bv_lt bs hb (n)
        have h2 : 256 ^ (n) ≤ 256 ^ 8 := Nat.pow_le_pow_right (by decide) (by omega)
        have e : (256 : Nat) ^ 8 = 18446744073709551616 := by decide
        omega
      have hkk : kk (n : Int) = n := by unfold kk; omega
      have HLV := Lib.hid hlv
      have HBV := Lib.hid hbv
      have HL2 := Lib.hid hl2
      have HB2 := Lib.hid hb2
      have HKK := Lib.hid hkk
      have hkc : (n : Int) ≤ (c : Int) := by omega
      clear hlv hbv hl2 hb2 hlt hj hkk
      generalize M.lv bs (n) = lo at *
      generalize M.bv bs (n) = hi at *
      generalize hts : bs.take (n) = ts at *
      clear hts
      have hc0 := conv_of c rbk.drew
      generalize hst2 : strB ts = st at *
      have Hst := Lib.hid hst2
      clear hst2
      go_wp2
      refine wp_region_noPanic ?_
      refine wp_region_held_drew (S := fun w' => (convert 23 9 (.slice A (n) c)).run Try.prog w' = .ok (.string st) w') (by kernel_rfl) (hc0) (fun hHeld => ?_)
      refine wpAnyH_take (i := 0) (v := ?_) (by simp only [List.getElem?_toArray, List.getElem?_cons_succ, List.getElem?_cons_zero]; rfl) (by kernel_rfl) (by kernel_rfl) (by kernel_rfl) (fun _ _ _ h => h) (Or.inl ⟨by rfl, ?_⟩) (by assumption) ?_
      rotate_left
      · (intro w hSw; (try dsimp only at hSw); go_simp; (try with_reducible rfl))
      (try simp only [Act.put, List.setIfInBounds_toArray, List.set_cons_zero, List.set_cons_succ])
      refine wpAnyH_take (i := 2) (v := ?_) (by simp only [List.getElem?_toArray, List.getElem?_cons_succ, List.getElem?_cons_zero]; rfl) (by kernel_rfl) (by kernel_rfl) (by kernel_rfl) (fun _ _ _ h => h) (Or.inl ⟨by rfl, ?_⟩) (by assumption) ?_
      rotate_left
      · (intro w hSw; (try dsimp only at hSw); go_simp; (try with_reducible rfl))
      (try simp only [Act.put, List.setIfInBounds_toArray, List.set_cons_zero, List.set_cons_succ])
      refine wpAnyH_ready (rs := [1]) (by kernel_rfl) (by simp) ?_
      refine AllReadyH.cons (by simp only [List.getElem?_toArray, List.getElem?_cons_succ, List.getElem?_cons_zero]; rfl) (fun K hK => ?_) AllReadyH.nil
      go_simp
      refine (little_any A n c bs _ _ hr1.drew hb (by omega)).mono ?_
      rintro e w2 ⟨rfl, rfl⟩
      rw [HLV.out]
      go_wp2_with fail
      refine hK.out _ _ ?_ (fun hHeld => ?_)
      · exact hc0
      clear hK K
      (try simp only [Act.put, List.setIfInBounds_toArray, List.set_cons_zero, List.set_cons_succ])
      refine wpAnyH_take (i := 3) (v := ?_) (by simp only [List.getElem?_toArray, List.getElem?_cons_succ, List.getElem?_cons_zero]; rfl) (by kernel_rfl) (by kernel_rfl) (by kernel_rfl) (fun _ _ _ h => h) (Or.inl ⟨by rfl, ?_⟩) (by assumption) ?_
      rotate_left
      · (intro w hSw; (try dsimp only at hSw); go_simp; (try with_reducible rfl))
      (try simp only [Act.put, List.setIfInBounds_toArray, List.set_cons_zero, List.set_cons_succ])
      refine wpAnyH_take (i := 4) (v := ?_) (by simp only [List.getElem?_toArray, List.getElem?_cons_succ, List.getElem?_cons_zero]; rfl) (by kernel_rfl) (by kernel_rfl) (by kernel_rfl) (fun _ _ _ h => h) (Or.inl ⟨by rfl, ?_⟩) (by assumption) ?_
      rotate_left
      · (intro w hSw; (try dsimp only at hSw); go_simp; (try with_reducible rfl))
      (try simp only [Act.put, List.setIfInBounds_toArray, List.set_cons_zero, List.set_cons_succ])
      refine wpAnyH_take (i := 5) (v := ?_) (by simp only [List.getElem?_toArray, List.getElem?_cons_succ, List.getElem?_cons_zero]; rfl) (by kernel_rfl) (by kernel_rfl) (by kernel_rfl) (fun _ _ _ h => h) (Or.inl ⟨by rfl, ?_⟩) (by assumption) ?_
      rotate_left
      · (intro w hSw; (try dsimp only at hSw); go_simp; (try with_reducible rfl))
      (try simp only [Act.put, List.setIfInBounds_toArray, List.set_cons_zero, List.set_cons_succ])
      refine wpAnyH_take (i := 7) (v := ?_) (by simp only [List.getElem?_toArray, List.getElem?_cons_succ, List.getElem?_cons_zero]; rfl) (by kernel_rfl) (by kernel_rfl) (by kernel_rfl) (fun _ _ _ h => h) (Or.inl ⟨by rfl, ?_⟩) (by assumption) ?_
      rotate_left
      · (intro w hSw; (try dsimp only at hSw); go_simp; (try with_reducible rfl))
      (try simp only [Act.put, List.setIfInBounds_toArray, List.set_cons_zero, List.set_cons_succ])
      refine wpAnyH_ready (rs := [6]) (by kernel_rfl) (by simp) ?_
      refine AllReadyH.cons (by simp only [List.getElem?_toArray, List.getElem?_cons_succ, List.getElem?_cons_zero]; rfl) (fun K hK => ?_) AllReadyH.nil
      go_simp
      refine (big_any A n c bs _ _ hr1.drew hb (by omega)).mono ?_
      rintro e w2 ⟨rfl, rfl⟩
      rw [HBV.out]
      go_wp2_with fail
      refine hK.out _ _ ?_ (fun hHeld => ?_)
      · exact hc0
      clear hK K
      (try simp only [Act.put, List.setIfInBounds_toArray, List.set_cons_zero, List.set_cons_succ])
      refine wpAnyH_take (i := 8) (v := ?_) (by simp only [List.getElem?_toArray, List.getElem?_cons_succ, List.getElem?_cons_zero]; rfl) (by kernel_rfl) (by kernel_rfl) (by kernel_rfl) (fun _ _ _ h => h) (Or.inl ⟨by rfl, ?_⟩) (by assumption) ?_
      rotate_left
      · (intro w hSw; (try dsimp only at hSw); go_simp; (try with_reducible rfl))
      (try simp only [Act.put, List.setIfInBounds_toArray, List.set_cons_zero, List.set_cons_succ])
      refine wpAnyH_take (i := 9) (v := ?_) (by simp only [List.getElem?_toArray, List.getElem?_cons_succ, List.getElem?_cons_zero]; rfl) (by kernel_rfl) (by kernel_rfl) (by kernel_rfl) (fun _ _ _ h => h) (Or.inl ⟨by rfl, ?_⟩) (by assumption) ?_
      rotate_left
      · (intro w hSw; (try dsimp only at hSw); go_simp; (try with_reducible rfl))
      (try simp only [Act.put, List.setIfInBounds_toArray, List.set_cons_zero, List.set_cons_succ])
      refine wpAnyH_take (i := 10) (v := ?_) (by simp only [List.getElem?_toArray, List.getElem?_cons_succ, List.getElem?_cons_zero]; rfl) (by kernel_rfl) (by kernel_rfl) (by kernel_rfl) (fun _ _ _ h => h) (Or.inl ⟨by rfl, ?_⟩) (by assumption) ?_
      rotate_left
      · (intro w hSw; (try dsimp only at hSw); go_simp; (try with_reducible rfl))
      (try simp only [Act.put, List.setIfInBounds_toArray, List.set_cons_zero, List.set_cons_succ])
      refine wpAnyH_take (i := 11) (v := ?_) (by simp only [List.getElem?_toArray, List.getElem?_cons_succ, List.getElem?_cons_zero]; rfl) (by kernel_rfl) (by kernel_rfl) (by kernel_rfl) (fun _ _ _ h => h) (Or.inl ⟨by rfl, ?_⟩) (by assumption) ?_
      rotate_left
      · (intro w hSw; (try dsimp only at hSw); go_simp; (try with_reducible rfl))
      (try simp only [Act.put, List.setIfInBounds_toArray, List.set_cons_zero, List.set_cons_succ])
      refine wpAnyH_take (i := 12) (v := ?_) (by simp only [List.getElem?_toArray, List.getElem?_cons_succ, List.getElem?_cons_zero]; rfl) (by kernel_rfl) (by kernel_rfl) (by kernel_rfl) (fun _ _ _ h => h) (Or.inl ⟨by rfl, ?_⟩) (by assumption) ?_
      rotate_left
      · (intro w hSw; (try dsimp only at hSw); go_simp; (try with_reducible rfl))
      (try simp only [Act.put, List.setIfInBounds_toArray, List.set_cons_zero, List.set_cons_succ])
      refine wpAnyH_take (i := 15) (v := ?_) (by simp only [List.getElem?_toArray, List.getElem?_cons_succ, List.getElem?_cons_zero]; rfl) (by kernel_rfl) (by kernel_rfl) (by kernel_rfl) (fun _ _ _ h => h) (Or.inl ⟨by rfl, ?_⟩) (by assumption) ?_
      rotate_left
      · (intro w hSw; (try dsimp only at hSw); go_simp; (try with_reducible rfl))
      (try simp only [Act.put, List.setIfInBounds_toArray, List.set_cons_zero, List.set_cons_succ])
      refine wpAnyH_take (i := 16) (v := ?_) (by simp only [List.getElem?_toArray, List.getElem?_cons_succ, List.getElem?_cons_zero]; rfl) (by kernel_rfl) (by kernel_rfl) (by kernel_rfl) (fun _ _ _ h => h) (Or.inl ⟨by rfl, ?_⟩) (by assumption) ?_
      rotate_left
      · (intro w hSw; (try dsimp only at hSw); go_simp; (try with_reducible rfl))
      (try simp only [Act.put, List.setIfInBounds_toArray, List.set_cons_zero, List.set_cons_succ])
      refine wpAnyH_take (i := 17) (v := ?_) (by simp only [List.getElem?_toArray, List.getElem?_cons_succ, List.getElem?_cons_zero]; rfl) (by kernel_rfl) (by kernel_rfl) (by kernel_rfl) (fun _ _ _ h => h) (Or.inl ⟨by rfl, ?_⟩) (by assumption) ?_
      rotate_left
      · (intro w hSw; (try dsimp only at hSw); go_simp; (try with_reducible rfl))
      (try simp only [Act.put, List.setIfInBounds_toArray, List.set_cons_zero, List.set_cons_succ])
      refine wpAnyH_take (i := 18) (v := ?_) (by simp only [List.getElem?_toArray, List.getElem?_cons_succ, List.getElem?_cons_zero]; rfl) (by kernel_rfl) (by kernel_rfl) (by kernel_rfl) (fun _ _ _ h => h) (Or.inl ⟨by rfl, ?_⟩) (by assumption) ?_
      rotate_left
      · (intro w hSw; (try dsimp only at hSw); go_simp; (try with_reducible rfl))
      (try simp only [Act.put, List.setIfInBounds_toArray, List.set_cons_zero, List.set_cons_succ])
      refine wpAnyH_ready (rs := [13]) (by kernel_rfl) (by simp) ?_
      refine AllReadyH.cons (by simp only [List.getElem?_toArray, List.getElem?_cons_succ, List.getElem?_cons_zero]; rfl) (fun K hK => ?_) AllReadyH.nil
      go_simp
      refine (putLittle_nil lo bl _ _).mono ?_
      rintro e w3 ⟨A3, c3, rfl, _, hr3, hb3⟩
      rw [HKK.out, HL2.out] at hr3
      rw [HKK.out]
      have hq3 := conv_of c3 hr3
      rw [Hst.out] at hq3
      have hq4 := conv_of c (rbk.drew.below (hb3.mono hb1.size))
      rw [Hst.out] at hq4
      clear hr3
      go_wp2_with fail
      refine hK.out _ _ ?_ (fun hHeld => ?_)
      · exact hq4
      clear hK K
      (try simp only [Act.put, List.setIfInBounds_toArray, List.set_cons_zero, List.set_cons_succ])
      refine wpAnyH_ready (rs := [14]) (by kernel_rfl) (by simp) ?_
      refine AllReadyH.cons (by simp only [List.getElem?_toArray, List.getElem?_cons_succ, List.getElem?_cons_zero]; rfl) (fun K hK => ?_) AllReadyH.nil
      go_simp
      skip
      refine hK.out _ _ ?_ (fun hHeld => ?_)
      · exact hq4
      clear hK K
      (try simp only [Act.put, List.setIfInBounds_toArray, List.set_cons_zero, List.set_cons_succ])
      refine wpAnyH_take (i := 19) (v := ?_) (by simp only [List.getElem?_toArray, List.getElem?_cons_succ, List.getElem?_cons_zero]; rfl) (by kernel_rfl) (by kernel_rfl) (by kernel_rfl) (fun _ _ _ h => h) (Or.inl ⟨by rfl, ?_⟩) (by assumption) ?_
      rotate_left
      · (intro w hSw; (try dsimp only at hSw); go_simp; (try with_reducible rfl))
      (try simp only [Act.put, List.setIfInBounds_toArray, List.set_cons_zero, List.set_cons_succ])
      refine wpAnyH_take (i := 20) (v := ?_) (by simp only [List.getElem?_toArray, List.getElem?_cons_succ, List.getElem?_cons_zero]; rfl) (by kernel_rfl) (by kernel_rfl) (by kernel_rfl) (fun _ _ _ h => h) (Or.inl ⟨by rfl, ?_⟩) (by assumption) ?_
      rotate_left
      · (intro w hSw; (try dsimp only at hSw); go_simp; (try with_reducible rfl))
      (try simp only [Act.put, List.setIfInBounds_toArray, List.set_cons_zero, List.set_cons_succ])
      refine wpAnyH_take (i := 21) (v := ?_) (by simp only [List.getElem?_toArray, List.getElem?_cons_succ, List.getElem?_cons_zero]; rfl) (by kernel_rfl) (by kernel_rfl) (by kernel_rfl) (fun _ _ _ h => h) (Or.inl ⟨by rfl, ?_⟩) (by assumption) ?_
      rotate_left
      · (intro w hSw; (try dsimp only at hSw); go_simp; (try with_reducible rfl))
      (try simp only [Act.put, List.setIfInBounds_toArray, List.set_cons_zero, List.set_cons_succ])
      refine wpAnyH_take (i := 22) (v := ?_) (by simp only [List.getElem?_toArray, List.getElem?_cons_succ, List.getElem?_cons_zero]; rfl) (by kernel_rfl) (by kernel_rfl) (by kernel_rfl) (fun _ _ _ h => h) (Or.inl ⟨by rfl, ?_⟩) (by assumption) ?_
      rotate_left
      · (intro w hSw; (try dsimp only at hSw); go_simp; (try with_reducible rfl))
      (try simp only [Act.put, List.setIfInBounds_toArray, List.set_cons_zero, List.set_cons_succ])
      refine wpAnyH_take (i := 23) (v := ?_) (by simp only [List.getElem?_toArray, List.getElem?_cons_succ, List.getElem?_cons_zero]; rfl) (by kernel_rfl) (by kernel_rfl) (by kernel_rfl) (fun _ _ _ h => h) (Or.inl ⟨by rfl, ?_⟩) (by assumption) ?_
      rotate_left
      · (intro w hSw; (try dsimp only at hSw); go_simp; (try with_reducible rfl))
      (try simp only [Act.put, List.setIfInBounds_toArray, List.set_cons_zero, List.set_cons_succ])
      refine wpAnyH_take (i := 26) (v := ?_) (by simp only [List.getElem?_toArray, List.getElem?_cons_succ, List.getElem?_cons_zero]; rfl) (by kernel_rfl) (by kernel_rfl) (by kernel_rfl) (fun _ _ _ h => h) (Or.inl ⟨by rfl, ?_⟩) (by assumption) ?_
      rotate_left
      · (intro w hSw; (try dsimp only at hSw); go_simp; (try with_reducible rfl))
      (try simp only [Act.put, List.setIfInBounds_toArray, List.set_cons_zero, List.set_cons_succ])
      refine wpAnyH_take (i := 27) (v := ?_) (by simp only [List.getElem?_toArray, List.getElem?_cons_succ, List.getElem?_cons_zero]; rfl) (by kernel_rfl) (by kernel_rfl) (by kernel_rfl) (fun _ _ _ h => h) (Or.inl ⟨by rfl, ?_⟩) (by assumption) ?_
      rotate_left
      · (intro w hSw; (try dsimp only at hSw); go_simp; (try with_reducible rfl))
      (try simp only [Act.put, List.setIfInBounds_toArray, List.set_cons_zero, List.set_cons_succ])
      refine wpAnyH_take (i := 28) (v := ?_) (by simp only [List.getElem?_toArray, List.getElem?_cons_succ, List.getElem?_cons_zero]; rfl) (by kernel_rfl) (by kernel_rfl) (by kernel_rfl) (fun _ _ _ h => h) (Or.inl ⟨by rfl, ?_⟩) (by assumption) ?_
      rotate_left
      · (intro w hSw; (try dsimp only at hSw); go_simp; (try with_reducible rfl))
      (try simp only [Act.put, List.setIfInBounds_toArray, List.set_cons_zero, List.set_cons_succ])
      refine wpAnyH_take (i := 29) (v := ?_) (by simp only [List.getElem?_toArray, List.getElem?_cons_succ, List.getElem?_cons_zero]; rfl) (by kernel_rfl) (by kernel_rfl) (by kernel_rfl) (fun _ _ _ h => h) (Or.inl ⟨by rfl, ?_⟩) (by assumption) ?_
      rotate_left
      · (intro w hSw; (try dsimp only at hSw); go_simp; (try with_reducible rfl))
      (try simp only [Act.put, List.setIfInBounds_toArray, List.set_cons_zero, List.set_cons_succ])
      refine wpAnyH_ready (rs := [24]) (by kernel_rfl) (by simp) ?_
      refine AllReadyH.cons (by simp only [List.getElem?_toArray, List.getElem?_cons_succ, List.getElem?_cons_zero]; rfl) (fun K hK => ?_) AllReadyH.nil
      go_simp
      refine (putBig_nil hi bh _ _).mono ?_
      rintro e w4 ⟨A4, c4, rfl, _, hr4, hb4⟩
      rw [HKK.out, HB2.out] at hr4
      rw [HKK.out]
      have hq5 := conv_of c4 hr4
      rw [Hst.out] at hq5
      have hq6 := conv_of c ((rbk.drew.below (hb3.mono hb1.size)).below (hb4.mono (Nat.le_trans hb1.size hb3.size)))
      rw [Hst.out] at hq6
      clear hr4
      go_wp2_with fail
      refine hK.out _ _ ?_ (fun hHeld => ?_)
      · exact hq6
      clear hK K
      (try simp only [Act.put, List.setIfInBounds_toArray, List.set_cons_zero, List.set_cons_succ])
      refine wpAnyH_ready (rs := [25]) (by kernel_rfl) (by simp) ?_
      refine AllReadyH.cons (by simp only [List.getElem?_toArray, List.getElem?_cons_succ, List.getElem?_cons_zero]; rfl) (fun K hK => ?_) AllReadyH.nil
      go_simp
      skip
      refine hK.out _ _ ?_ (fun hHeld => ?_)
      · exact hq6
      clear hK K
      (try simp only [Act.put, List.setIfInBounds_toArray, List.set_cons_zero, List.set_cons_succ])
      refine wpAnyH_take (i := 30) (v := ?_) (by simp only [List.getElem?_toArray, List.getElem?_cons_succ, List.getElem?_cons_zero]; rfl) (by kernel_rfl) (by kernel_rfl) (by kernel_rfl) (fun _ _ _ h => h) (Or.inl ⟨by rfl, ?_⟩) (by assumption) ?_
      rotate_left
      · (intro w hSw; (try dsimp only at hSw); go_simp; (try with_reducible rfl))
      (try simp only [Act.put, List.setIfInBounds_toArray, List.set_cons_zero, List.set_cons_succ])
      refine wpAnyH_take (i := 31) (v := ?_) (by simp only [List.getElem?_toArray, List.getElem?_cons_succ, List.getElem?_cons_zero]; rfl) (by kernel_rfl) (by kernel_rfl) (by kernel_rfl) (fun _ _ _ h => h) (Or.inl ⟨by rfl, ?_⟩) (by assumption) ?_
      rotate_left
      · (intro w hSw; (try dsimp only at hSw); go_simp; (try with_reducible rfl))
      (try simp only [Act.put, List.setIfInBounds_toArray, List.set_cons_zero, List.set_cons_succ])
      refine wpAnyH_done (by kernel_rfl) ?_ _
      refine NoPanic.normal ?_
      have hb14 : Below w.heap.size w w4 := (hb1.trans (Below.trans (Below.drew (Below.refl _ _)) (hb3.mono hb1.size))).trans (hb4.mono (Nat.le_trans hb1.size hb3.size))
      clear hq3 hq4 hq5 hq6 hc0 hr1 rbk hr hb
      go_upto_region 15 with fail
      go_cut [11] (fun v wx => w4 = wx ∧ v = .int .i64 ((kk s : Nat) : Int))
      case first =>
        rcases (show s < 0 ∨ (0 ≤ s ∧ s ≤ 8) ∨ 8 < s by omega) with hs | ⟨hs, hs'⟩ | hs
        · have e : Hid (kk s = 0) := Lib.hid (by unfold kk; omega)
          go_wp2_with fail
          go_meet
          exact ⟨rfl, by rw [e.out]; rfl⟩
        · have e : Hid (s = ((kk s : Nat) : Int)) := Lib.hid (by unfold kk; omega)
          go_wp2_with fail
          go_meet
          exact ⟨rfl, congrArg (Value.int .i64) e.out⟩
        · have e : Hid (kk s = 8) := Lib.hid (by unfold kk; omega)
          go_wp2_with fail
          go_meet
          exact ⟨rfl, by rw [e.out]; rfl⟩
      case rest =>
        obtain ⟨rfl, rfl⟩ := hcut
        have hk8 := kk_le s
        generalize hZ : kk s = Z at *
        have HZ := Lib.hid hZ
        clear hZ
        have hZI : (Z : Int) ≤ 8 := by omega
        have hbz := Buf.new w4 w4.heap.size 5 #[.int .u8 97] (1, 2) (Nat.le_refl _) (by unfold maxLen; simp)
        go_wp2_with fail
        refine (putLittle_any (X : Int) (by omega) hX s _ w4.heap.size hbz (by simp) (by simp)).mono ?_
        rintro e w5 ⟨vx, rfl, hlx⟩
        rw [Int.toNat_natCast, HZ.out] at hlx
        have hb45 : Below w4.heap.size w4 w5 := ((Below.refl _ _).alloc (Nat.le_refl _) _).trans (hlx.below hbz (by simp))
        obtain ⟨Ax, cx, rfl, hcx, hrx0⟩ := hlx.buf.slice
        have hrx : Rd w5 w5.heap.size Ax (1 + Z) (bys (97 :: M.leB X Z)) := hrx0
        clear hrx0 hlx hbz
        have hbz := Buf.new w5 w5.heap.size 5 #[.int .u8 97] (1, 2) (Nat.le_refl _) (by unfold maxLen; simp)
        go_wp2_with fail
        refine (putBig_any (X : Int) (by omega) hX s _ w5.heap.size hbz (by simp) (by simp)).mono ?_
        rintro e w6 ⟨vy, rfl, hly⟩
        rw [Int.toNat_natCast, HZ.out] at hly
        have hb56 : Below w5.heap.size w5 w6 := ((Below.refl _ _).alloc (Nat.le_refl _) _).trans (hly.below hbz (by simp))
        obtain ⟨Ay, cy, rfl, hcy, hry0⟩ := hly.buf.slice
        have hry : Rd w6 w6.heap.size Ay (1 + Z) (bys (97 :: M.beB X Z)) := hry0
        clear hry0 hly hbz
        have hrx6 := hrx.below hb56
        have hfin : Below w.heap.size w w6 := (hb14.trans (hb45.mono hb14.size)).trans (hb56.mono (Nat.le_trans hb14.size hb45.size))
        obtain ⟨gx, ox, ux, rfl, hgx, hux, hcx0⟩ := hrx6.at_ (k := 0) (by omega)
        obtain ⟨gy, oy, uy, rfl, hgy, huy, hcy0⟩ := hry.at_ (k := 0) (by omega)
        have e97x : ux = .int .u8 97 := by injection hux with h; exact h.symm
        have e97y : uy = .int .u8 97 := by injection huy with h; exact h.symm
        subst e97x
        subst e97y
        rw [Nat.add_zero] at hcx0 hcy0
        clear hux huy
        have hZ1 : (0 : Int) < 1 + (Z : Int) := by omega
        go_wp2_with fail
        go_loop [14, 15] (fun y i => ∃ j : Nat, j ≤ Z ∧ i = .int .i64 j ∧ y = .int .u64 ((X / 256 ^ j : Nat) : Int)) (fun _ i => 8 - (intOf i).toNat)
        case atStart => exact ⟨0, Nat.zero_le _, rfl, by simp⟩
        case round =>
          obtain ⟨j, hj, rfl, rfl⟩ := hrel
          by_cases hlt : j < Z
          · have hD := Lib.hid (show X / 256 ^ (j + 1) = X / 256 ^ j / 256 by rw [Nat.pow_succ, Nat.div_div_eq_div_mul])
            have hYb : ((X / 256 ^ j : Nat) : Int) ≤ 18446744073709551615 := by
              have := Nat.div_le_self X (256 ^ j)
              omega
            obtain ⟨_, _, u1, e1, _, hu1, hc1⟩ := hrx6.at_ (k := 1 + j) (by omega)
            injection e1 with e1
            injection e1 with e1 e1'
            subst e1
            subst e1'
            rw [bys_get _ _ (by simp [M.leB_len]; omega)] at hu1
            injection hu1 with hu1
            subst hu1
            have v1 : (97 :: M.leB X Z).getD (1 + j) 0 = X / 256 ^ j % 256 := by
              have := M.leB_get X Z j hlt
              rw [show 1 + j = j + 1 by omega]; exact this
            rw [v1] at hc1
            obtain ⟨_, _, u2, e2, _, hu2, hc2⟩ := hry.at_ (k := Z - j) (by omega)
            injection e2 with e2
            injection e2 with e2 e2'
            subst e2
            subst e2'
            rw [bys_get _ _ (by simp [M.beB_len]; omega)] at hu2
            injection hu2 with hu2
            subst hu2
            have v2 : (97 :: M.beB X Z).getD (Z - j) 0 = X / 256 ^ j % 256 := by
              have := M.beB_get X Z (Z - j - 1) (by omega)
              rw [show Z - 1 - (Z - j - 1) = j by omega] at this
              rw [show Z - j = (Z - j - 1) + 1 by omega]; exact this
            rw [v2] at hc2
            clear v1 v2
            generalize X / 256 ^ j = Y at *
            have eY : ((Y % 256 : Nat) : Int) = (Y : Int) % 256 := by omega
            rw [eY] at hc1 hc2
            clear eY
            have hlt' : (j : Int) < (Z : Int) := by omega
            have i1 : (1 : Int) + (j : Int) < 1 + (Z : Int) := by omega
            have i2 : (Z : Int) - (j : Int) < 1 + (Z : Int) := by omega
            have i3 : (0 : Int) ≤ (Z : Int) - (j : Int) := by omega
            go_wp2
            go_round
            case rel => exact ⟨j + 1, by omega, by go_num, by rw [hD.out]; simp⟩
            case measure => simp [intOf]; omega
          · have hlt' : decide ((j : Int) < (Z : Int)) = false := by simp; omega
            have hlt2 : (Z : Int) ≤ (j : Int) := by omega
            go_wp2
            go_ret
            exact ⟨rfl, hfin⟩

set_option maxHeartbeats 1000000 in
set_option maxRecDepth 100000 in
theorem bytes_many (A : Option Addr) (n c : Nat) (bs : List Nat) (X : Nat) (hX : (X : Int) ≤ 18446744073709551615) (s : Int) (w : World) (hr : Rd w w.heap.size A n (bys bs)) (hb : ∀ c ∈ bs, c < 256) (hlen : bs.length = n) (h300 : (n : Int) ≤ 300) (hc : n ≤ c) (hk : 8 < n) :
    Calls Try.prog 7 #[.slice A n c, .int .u64 (X : Int), .int .i64 s] w fun e w' => e = .returned (.bool true) ∧ Below w.heap.size w w' := by
  have hd : decide (300 < (n : Int)) = false := by simp; omega
  have HL := Lib.hid hlen
  clear hlen
  have kc := fun (w : World) (C : Array Value) (n c : Nat) => Lib.run_convert_bytes_const (P := Try.prog) w 23 5 C n c Try.underlying23 Try.underlying5
  go_enter Try.func7, Try.ntmps7
  go_wp2_with fail
  refine (head_any _).mono ?_
  rintro e w1 ⟨rfl, hb1⟩
  have hr1 := hr.below hb1
  go_wp2_with fail
  go_loop [8, 9, 10] (fun lo hi i => ∃ j : Nat, j ≤ 8 ∧ i = .int .i64 j ∧ lo = .int .u64 (lowR bs (8) j : Int) ∧ hi = .int .u64 (M.bv bs j : Int)) (fun _ _ i => 8 - (intOf i).toNat)
  case atStart => exact ⟨0, Nat.zero_le _, rfl, rfl, rfl⟩
  case round =>
    obtain ⟨j, hj, rfl, rfl, rfl⟩ := hrel
    by_cases hlt : j < 8
    · have hj8 : j ≤ 7 := by omega
      obtain ⟨g, off, u, rfl, hgB, hu, hcell⟩ := hr1.at_ (k := j) (by omega)
      rw [bys_get bs j (by rw [HL.out]; omega)] at hu
      injection hu with hu
      subst hu
      obtain ⟨g', off', u', eg, hgB', hu', hcell'⟩ := hr1.at_ (k := 8 - 1 - j) (by omega)
      injection eg with eg
      injection eg with eg1 eg2
      subst eg1
      subst eg2
      rw [bys_get bs _ (by rw [HL.out]; omega)] at hu'
      injection hu' with hu'
      subst hu'
      have h2 : 256 ^ j ≤ 256 ^ 7 := Nat.pow_le_pow_right (by decide) hj8
      have e7 : (256 : Nat) ^ 7 = 72057594037927936 := by decide
      have b1 := lowR_lt bs hb (8) j
      have b2 := M.bv_lt bs hb j
      have c1 := M.getD_lt hb j
      have c2 := M.getD_lt hb (8 - 1 - j)
      have b1' : ((lowR bs (8) j : Nat) : Int) ≤ 72057594037927935 := by omega
      have b2' : ((M.bv bs j : Nat) : Int) ≤ 72057594037927935 := by omega
      have c1' : ((bs.getD j 0 : Nat) : Int) ≤ 255 := by omega
      have c2' : ((bs.getD (8 - 1 - j) 0 : Nat) : Int) ≤ 255 := by omega
      clear h2 e7 b1 b2
      have H1 := Lib.hid (show lowR bs (8) (j + 1) = lowR bs (8) j * 256 + bs.getD (8 - 1 - j) 0 from rfl)
      have H2 := Lib.hid (show M.bv bs (j + 1) = M.bv bs j * 256 + bs.getD j 0 from rfl)
      generalize lowR bs (8) j = lo at *
      generalize M.bv bs j = hi at *
      generalize bs.getD j 0 = x1 at *
      generalize bs.getD (8 - 1 - j) 0 = x2 at *
      have hlt' : (j : Int) < (8 : Int) := by omega
      have hjn : (j : Int) < (n : Int) := by omega
      have hkn : (8 : Int) ≤ (n : Int) := by omega
      have hjI : (j : Int) ≤ 7 := by omega
      go_wp2
      go_round
      case rel =>
        refine ⟨j + 1, by omega, by go_num, ?_, ?_⟩
        · rw [H1.out]; go_num
        · rw [H2.out]; go_num
      case measure => simp [intOf]; omega
    · obtain rfl : 8 = j := by omega
      have hlt' : decide ((8 : Int) < (8 : Int)) = false := by simp
      have hl2 := M.leB_lv bs hb (8) (by rw [HL.out]; omega)
      have hb2 := M.beB_bv bs hb (8) (by rw [HL.out]; omega)
      rw [lowR_all bs hb]
      have rbk : Rd w1 w.heap.size A (8) (bys (bs.take (8))) := by rw [bys_take]; exact hr1.take _ (by omega)
      have hlv : M.lv bs (min n 8) = M.lv bs (8) := by congr 1; omega
      have hbv : M.bv bs (min n 8) = M.bv bs (8) := by congr 1; omega
      have bl : ((M.lv bs (8) : Nat) : Int) ≤ 18446744073709551615 := by
        have h1 := M.lv_lt bs hb (8)
        have h2 : 256 ^ (8) ≤ 256 ^ 8 := Nat.pow_le_pow_right (by decide) (by omega)
        have e : (256 : Nat) ^ 8 = 18446744073709551616 := by decide
        omega
      have bh : ((M.bv bs (8) : Nat) : Int) ≤ 18446744073709551615 := by
        have h1 := M.bv_lt bs hb (8)
        have h2 : 256 ^ (8) ≤ 256 ^ 8 := Nat.pow_le_pow_right (by decide) (by omega)
        have e : (256 : Nat) ^ 8 = 18446744073709551616 := by decide
        omega
      have hkk : kk (8 : Int) = 8 := by unfold kk; omega
      have HLV := Lib.hid hlv
      have HBV := Lib.hid hbv
      have HL2 := Lib.hid hl2
      have HB2 := Lib.hid hb2
      have HKK := Lib.hid hkk
      have hkc : (8 : Int) ≤ (c : Int) := by omega
      clear hlv hbv hl2 hb2 hlt hj hkk
      generalize M.lv bs (8) = lo at *
      generalize M.bv bs (8) = hi at *
      generalize hts : bs.take (8) = ts at *
      clear hts
      have hc0 := conv_of c rbk.drew
      generalize hst2 : strB ts = st at *
      have Hst := Lib.hid hst2
      clear hst2
      go_wp2
      refine wp_region_noPanic ?_
      refine wp_region_held_drew (S := fun w' => (convert 23 9 (.slice A (8) c)).run Try.prog w' = .ok (.string st) w') (by kernel_rfl) (hc0) (fun hHeld => ?_)
      refine wpAnyH_take (i := 0) (v := ?_) (by simp only [List.getElem?_toArray, List.getElem?_cons_succ, List.getElem?_cons_zero]; rfl) (by kernel_rfl) (by kernel_rfl) (by kernel_rfl) (fun _ _ _ h => h) (Or.inl ⟨by rfl, ?_⟩) (by assumption) ?_
      rotate_left
      · (intro w hSw; (try dsimp only at hSw); go_simp; (try with_reducible rfl))
      (try simp only [Act.put, List.setIfInBounds_toArray, List.set_cons_zero, List.set_cons_succ])
      refine wpAnyH_take (i := 2) (v := ?_) (by simp only [List.getElem?_toArray, List.getElem?_cons_succ, List.getElem?_cons_zero]; rfl) (by kernel_rfl) (by kernel_rfl) (by kernel_rfl) (fun _ _ _ h => h) (Or.inl ⟨by rfl, ?_⟩) (by assumption) ?_
      rotate_left
      · (intro w hSw; (try dsimp only at hSw); go_simp; (try with_reducible rfl))
      (try simp only [Act.put, List.setIfInBounds_toArray, List.set_cons_zero, List.set_cons_succ])
      refine wpAnyH_ready (rs := [1]) (by kernel_rfl) (by simp) ?_
      refine AllReadyH.cons (by simp only [List.getElem?_toArray, List.getElem?_cons_succ, List.getElem?_cons_zero]; rfl) (fun K hK => ?_) AllReadyH.nil
      go_simp
      refine (little_any A n c bs _ _ hr1.drew hb (by omega)).mono ?_
      rintro e w2 ⟨rfl, rfl⟩
      rw [HLV.out]
      go_wp2_with fail
      refine hK.out _ _ ?_ (fun hHeld => ?_)
      · exact hc0
      clear hK K
      (try simp only [Act.put, List.setIfInBounds_toArray, List.set_cons_zero, List.set_cons_succ])
      refine wpAnyH_take (i := 3) (v := ?_) (by simp only [List.getElem?_toArray, List.getElem?_cons_succ, List.getElem?_cons_zero]; rfl) (by kernel_rfl) (by kernel_rfl) (by kernel_rfl) (fun _ _ _ h => h) (Or.inl ⟨by rfl, ?_⟩) (by assumption) ?_
      rotate_left
      · (intro w hSw; (try dsimp only at hSw); go_simp; (try with_reducible rfl))
      (try simp only [Act.put, List.setIfInBounds_toArray, List.set_cons_zero, List.set_cons_succ])
      refine wpAnyH_take (i := 4) (v := ?_) (by simp only [List.getElem?_toArray, List.getElem?_cons_succ, List.getElem?_cons_zero]; rfl) (by kernel_rfl) (by kernel_rfl) (by kernel_rfl) (fun _ _ _ h => h) (Or.inl ⟨by rfl, ?_⟩) (by assumption) ?_
      rotate_left
      · (intro w hSw; (try dsimp only at hSw); go_simp; (try with_reducible rfl))
      (try simp only [Act.put, List.setIfInBounds_toArray, List.set_cons_zero, List.set_cons_succ])
      refine wpAnyH_take (i := 5) (v := ?_) (by simp only [List.getElem?_toArray, List.getElem?_cons_succ, List.getElem?_cons_zero]; rfl) (by kernel_rfl) (by kernel_rfl) (by kernel_rfl) (fun _ _ _ h => h) (Or.inl ⟨by rfl, ?_⟩) (by assumption) ?_
      rotate_left
      · (intro w hSw; (try dsimp only at hSw); go_simp; (try with_reducible rfl))
      (try simp only [Act.put, List.setIfInBounds_toArray, List.set_cons_zero, List.set_cons_succ])
      refine wpAnyH_take (i := 7) (v := ?_) (by simp only [List.getElem?_toArray, List.getElem?_cons_succ, List.getElem?_cons_zero]; rfl) (by kernel_rfl) (by kernel_rfl) (by kernel_rfl) (fun _ _ _ h => h) (Or.inl ⟨by rfl, ?_⟩) (by assumption) ?_
      rotate_left
      · (intro w hSw; (try dsimp only at hSw); go_simp; (try with_reducible rfl))
      (try simp only [Act.put, List.setIfInBounds_toArray, List.set_cons_zero, List.set_cons_succ])
      refine wpAnyH_ready (rs := [6]) (by kernel_rfl) (by simp) ?_
      refine AllReadyH.cons (by simp only [List.getElem?_toArray, List.getElem?_cons_succ, List.getElem?_cons_zero]; rfl) (fun K hK => ?_) AllReadyH.nil
      go_simp
      refine (big_any A n c bs _ _ hr1.drew hb (by omega)).mono ?_
      rintro e w2 ⟨rfl, rfl⟩
      rw [HBV.out]
      go_wp2_with fail
      refine hK.out _ _ ?_ (fun hHeld => ?_)
      · exact hc0
      clear hK K
      (try simp only [Act.put, List.setIfInBounds_toArray, List.set_cons_zero, List.set_cons_succ])
      refine wpAnyH_take (i := 8) (v := ?_) (by simp only [List.getElem?_toArray, List.getElem?_cons_succ, List.getElem?_cons_zero]; rfl) (by kernel_rfl) (by kernel_rfl) (by kernel_rfl) (fun _ _ _ h => h) (Or.inl ⟨by rfl, ?_⟩) (by assumption) ?_
      rotate_left
      · (intro w hSw; (try dsimp only at hSw); go_simp; (try with_reducible rfl))
      (try simp only [Act.put, List.setIfInBounds_toArray, List.set_cons_zero, List.set_cons_succ])
      refine wpAnyH_take (i := 9) (v := ?_) (by simp only [List.getElem?_toArray, List.getElem?_cons_succ, List.getElem?_cons_zero]; rfl) (by kernel_rfl) (by kernel_rfl) (by kernel_rfl) (fun _ _ _ h => h) (Or.inl ⟨by rfl, ?_⟩) (by assumption) ?_
      rotate_left
      · (intro w hSw; (try dsimp only at hSw); go_simp; (try with_reducible rfl))
      (try simp only [Act.put, List.setIfInBounds_toArray, List.set_cons_zero, List.set_cons_succ])
      refine wpAnyH_take (i := 10) (v := ?_) (by simp only [List.getElem?_toArray, List.getElem?_cons_succ, List.getElem?_cons_zero]; rfl) (by kernel_rfl) (by kernel_rfl) (by kernel_rfl) (fun _ _ _ h => h) (Or.inl ⟨by rfl, ?_⟩) (by assumption) ?_
      rotate_left
      · (intro w hSw; (try dsimp only at hSw); go_simp; (try with_reducible rfl))
      (try simp only [Act.put, List.setIfInBounds_toArray, List.set_cons_zero, List.set_cons_succ])
      refine wpAnyH_take (i := 11) (v := ?_) (by simp only [List.getElem?_toArray, List.getElem?_cons_succ, List.getElem?_cons_zero]; rfl) (by kernel_rfl) (by kernel_rfl) (by kernel_rfl) (fun _ _ _ h => h) (Or.inl ⟨by rfl, ?_⟩) (by assumption) ?_
      rotate_left
      · (intro w hSw; (try dsimp only at hSw); go_simp; (try with_reducible rfl))
      (try simp only [Act.put, List.setIfInBounds_toArray, List.set_cons_zero, List.set_cons_succ])
      refine wpAnyH_take (i := 12) (v := ?_) (by simp only [List.getElem?_toArray, List.getElem?_cons_succ, List.getElem?_cons_zero]; rfl) (by kernel_rfl) (by kernel_rfl) (by kernel_rfl) (fun _ _ _ h => h) (Or.inl ⟨by rfl, ?_⟩) (by assumption) ?_
      rotate_left
      · (intro w hSw; (try dsimp only at hSw); go_simp; (try with_reducible rfl))
      (try simp only [Act.put, List.setIfInBounds_toArray, List.set_cons_zero, List.set_cons_succ])
      refine wpAnyH_take (i := 15) (v := ?_) (by simp only [List.getElem?_toArray, List.getElem?_cons_succ, List.getElem?_cons_zero]; rfl) (by kernel_rfl) (by kernel_rfl) (by kernel_rfl) (fun _ _ _ h => h) (Or.inl ⟨by rfl, ?_⟩) (by assumption) ?_
      rotate_left
      · (intro w hSw; (try dsimp only at hSw); go_simp; (try with_reducible rfl))
      (try simp only [Act.put, List.setIfInBounds_toArray, List.set_cons_zero, List.set_cons_succ])
      refine wpAnyH_take (i := 16) (v := ?_) (by simp only [List.getElem?_toArray, List.getElem?_cons_succ, List.getElem?_cons_zero]; rfl) (by kernel_rfl) (by kernel_rfl) (by kernel_rfl) (fun _ _ _ h => h) (Or.inl ⟨by rfl, ?_⟩) (by assumption) ?_
      rotate_left
      · (intro w hSw; (try dsimp only at hSw); go_simp; (try with_reducible rfl))
      (try simp only [Act.put, List.setIfInBounds_toArray, List.set_cons_zero, List.set_cons_succ])
      refine wpAnyH_take (i := 17) (v := ?_) (by simp only [List.getElem?_toArray, List.getElem?_cons_succ, List.getElem?_cons_zero]; rfl) (by kernel_rfl) (by kernel_rfl) (by kernel_rfl) (fun _ _ _ h => h) (Or.inl ⟨by rfl, ?_⟩) (by assumption) ?_
      rotate_left
      · (intro w hSw; (try dsimp only at hSw); go_simp; (try with_reducible rfl))
      (try simp only [Act.put, List.setIfInBounds_toArray, List.set_cons_zero, List.set_cons_succ])
      refine wpAnyH_take (i := 18) (v := ?_) (by simp only [List.getElem?_toArray, List.getElem?_cons_succ, List.getElem?_cons_zero]; rfl) (by kernel_rfl) (by kernel_rfl) (by kernel_rfl) (fun _ _ _ h => h) (Or.inl ⟨by rfl, ?_⟩) (by assumption) ?_
      rotate_left
      · (intro w hSw; (try dsimp only at hSw); go_simp; (try with_reducible rfl))
      (try simp only [Act.put, List.setIfInBounds_toArray, List.set_cons_zero, List.set_cons_succ])
      refine wpAnyH_ready (rs := [13]) (by kernel_rfl) (by simp) ?_
      refine AllReadyH.cons (by simp only [List.getElem?_toArray, List.getElem?_cons_succ, List.getElem?_cons_zero]; rfl) (fun K hK => ?_) AllReadyH.nil
      go_simp
      refine (putLittle_nil lo bl _ _).mono ?_
      rintro e w3 ⟨A3, c3, rfl, _, hr3, hb3⟩
      rw [HKK.out, HL2.out] at hr3
      rw [HKK.out]
      have hq3 := conv_of c3 hr3
      rw [Hst.out] at hq3
      have hq4 := conv_of c (rbk.drew.below (hb3.mono hb1.size))
      rw [Hst.out] at hq4
      clear hr3
      go_wp2_with fail
      refine hK.out _ _ ?_ (fun hHeld => ?_)
      · exact hq4
      clear hK K
      (try simp only [Act.put, List.setIfInBounds_toArray, List.set_cons_zero, List.set_cons_succ])
      refine wpAnyH_ready (rs := [14]) (by kernel_rfl) (by simp) ?_
      refine AllReadyH.cons (by simp only [List.getElem?_toArray, List.getElem?_cons_succ, List.getElem?_cons_zero]; rfl) (fun K hK => ?_) AllReadyH.nil
      go_simp
      skip
      refine hK.out _ _ ?_ (fun hHeld => ?_)
      · exact hq4
      clear hK K
      (try simp only [Act.put, List.setIfInBounds_toArray, List.set_cons_zero, List.set_cons_succ])
      refine wpAnyH_take (i := 19) (v := ?_) (by simp only [List.getElem?_toArray, List.getElem?_cons_succ, List.getElem?_cons_zero]; rfl) (by kernel_rfl) (by kernel_rfl) (by kernel_rfl) (fun _ _ _ h => h) (Or.inl ⟨by rfl, ?_⟩) (by assumption) ?_
      rotate_left
      · (intro w hSw; (try dsimp only at hSw); go_simp; (try with_reducible rfl))
      (try simp only [Act.put, List.setIfInBounds_toArray, List.set_cons_zero, List.set_cons_succ])
      refine wpAnyH_take (i := 20) (v := ?_) (by simp only [List.getElem?_toArray, List.getElem?_cons_succ, List.getElem?_cons_zero]; rfl) (by kernel_rfl) (by kernel_rfl) (by kernel_rfl) (fun _ _ _ h => h) (Or.inl ⟨by rfl, ?_⟩) (by assumption) ?_
      rotate_left
      · (intro w hSw; (try dsimp only at hSw); go_simp; (try with_reducible rfl))
      (try simp only [Act.put, List.setIfInBounds_toArray, List.set_cons_zero, List.set_cons_succ])
      refine wpAnyH_take (i := 21) (v := ?_) (by simp only [List.getElem?_toArray, List.getElem?_cons_succ, List.getElem?_cons_zero]; rfl) (by kernel_rfl) (by kernel_rfl) (by kernel_rfl) (fun _ _ _ h => h) (Or.inl ⟨by rfl, ?_⟩) (by assumption) ?_
      rotate_left
      · (intro w hSw; (try dsimp only at hSw); go_simp; (try with_reducible rfl))
      (try simp only [Act.put, List.setIfInBounds_toArray, List.set_cons_zero, List.set_cons_succ])
      refine wpAnyH_take (i := 22) (v := ?_) (by simp only [List.getElem?_toArray, List.getElem?_cons_succ, List.getElem?_cons_zero]; rfl) (by kernel_rfl) (by kernel_rfl) (by kernel_rfl) (fun _ _ _ h => h) (Or.inl ⟨by rfl, ?_⟩) (by assumption) ?_
      rotate_left
      · (intro w hSw; (try dsimp only at hSw); go_simp; (try with_reducible rfl))
      (try simp only [Act.put, List.setIfInBounds_toArray, List.set_cons_zero, List.set_cons_succ])
      refine wpAnyH_take (i := 23) (v := ?_) (by simp only [List.getElem?_toArray, List.getElem?_cons_succ, List.getElem?_cons_zero]; rfl) (by kernel_rfl) (by kernel_rfl) (by kernel_rfl) (fun _ _ _ h => h) (Or.inl ⟨by rfl, ?_⟩) (by assumption) ?_
      rotate_left
      · (intro w hSw; (try dsimp only at hSw); go_simp; (try with_reducible rfl))
      (try simp only [Act.put, List.setIfInBounds_toArray, List.set_cons_zero, List.set_cons_succ])
      refine wpAnyH_take (i := 26) (v := ?_) (by simp only [List.getElem?_toArray, List.getElem?_cons_succ, List.getElem?_cons_zero]; rfl) (by kernel_rfl) (by kernel_rfl) (by kernel_rfl) (fun _ _ _ h => h) (Or.inl ⟨by rfl, ?_⟩) (by assumption) ?_
      rotate_left
      · (intro w hSw; (try dsimp only at hSw); go_simp; (try with_reducible rfl))
      (try simp only [Act.put, List.setIfInBounds_toArray, List.set_cons_zero, List.set_cons_succ])
      refine wpAnyH_take (i := 27) (v := ?_) (by simp only [List.getElem?_toArray, List.getElem?_cons_succ, List.getElem?_cons_zero]; rfl) (by kernel_rfl) (by kernel_rfl) (by kernel_rfl) (fun _ _ _ h => h) (Or.inl ⟨by rfl, ?_⟩) (by assumption) ?_
      rotate_left
      · (intro w hSw; (try dsimp only at hSw); go_simp; (try with_reducible rfl))
      (try simp only [Act.put, List.setIfInBounds_toArray, List.set_cons_zero, List.set_cons_succ])
      refine wpAnyH_take (i := 28) (v := ?_) (by simp only [List.getElem?_toArray, List.getElem?_cons_succ, List.getElem?_cons_zero]; rfl) (by kernel_rfl) (by kernel_rfl) (by kernel_rfl) (fun _ _ _ h => h) (Or.inl ⟨by rfl, ?_⟩) (by assumption) ?_
      rotate_left
      · (intro w hSw; (try dsimp only at hSw); go_simp; (try with_reducible rfl))
      (try simp only [Act.put, List.setIfInBounds_toArray, List.set_cons_zero, List.set_cons_succ])
      refine wpAnyH_take (i := 29) (v := ?_) (by simp only [List.getElem?_toArray, List.getElem?_cons_succ, List.getElem?_cons_zero]; rfl) (by kernel_rfl) (by kernel_rfl) (by kernel_rfl) (fun _ _ _ h => h) (Or.inl ⟨by rfl, ?_⟩) (by assumption) ?_
      rotate_left
      · (intro w hSw; (try dsimp only at hSw); go_simp; (try with_reducible rfl))
      (try simp only [Act.put, List.setIfInBounds_toArray, List.set_cons_zero, List.set_cons_succ])
      refine wpAnyH_ready (rs := [24]) (by kernel_rfl) (by simp) ?_
      refine AllReadyH.cons (by simp only [List.getElem?_toArray, List.getElem?_cons_succ, List.getElem?_cons_zero]; rfl) (fun K hK => ?_) AllReadyH.nil
      go_simp
      refine (putBig_nil hi bh _ _).mono ?_
      rintro e w4 ⟨A4, c4, rfl, _, hr4, hb4⟩
      rw [HKK.out, HB2.out] at hr4
      rw [HKK.out]
      have hq5 := conv_of c4 hr4
      rw [Hst.out] at hq5
      have hq6 := conv_of c ((rbk.drew.below (hb3.mono hb1.size)).below (hb4.mono (Nat.le_trans hb1.size hb3.size)))
      rw [Hst.out] at hq6
      clear hr4
      go_wp2_with fail
      refine hK.out _ _ ?_ (fun hHeld => ?_)
      · exact hq6
      clear hK K
      (try simp only [Act.put, List.setIfInBounds_toArray, List.set_cons_zero, List.set_cons_succ])
      refine wpAnyH_ready (rs := [25]) (by kernel_rfl) (by simp) ?_
      refine AllReadyH.cons (by simp only [List.getElem?_toArray, List.getElem?_cons_succ, List.getElem?_cons_zero]; rfl) (fun K hK => ?_) AllReadyH.nil
      go_simp
      skip
      refine hK.out _ _ ?_ (fun hHeld => ?_)
      · exact hq6
      clear hK K
      (try simp only [Act.put, List.setIfInBounds_toArray, List.set_cons_zero, List.set_cons_succ])
      refine wpAnyH_take (i := 30) (v := ?_) (by simp only [List.getElem?_toArray, List.getElem?_cons_succ, List.getElem?_cons_zero]; rfl) (by kernel_rfl) (by kernel_rfl) (by kernel_rfl) (fun _ _ _ h => h) (Or.inl ⟨by rfl, ?_⟩) (by assumption) ?_
      rotate_left
      · (intro w hSw; (try dsimp only at hSw); go_simp; (try with_reducible rfl))
      (try simp only [Act.put, List.setIfInBounds_toArray, List.set_cons_zero, List.set_cons_succ])
      refine wpAnyH_take (i := 31) (v := ?_) (by simp only [List.getElem?_toArray, List.getElem?_cons_succ, List.getElem?_cons_zero]; rfl) (by kernel_rfl) (by kernel_rfl) (by kernel_rfl) (fun _ _ _ h => h) (Or.inl ⟨by rfl, ?_⟩) (by assumption) ?_
      rotate_left
      · (intro w hSw; (try dsimp only at hSw); go_simp; (try with_reducible rfl))
      (try simp only [Act.put, List.setIfInBounds_toArray, List.set_cons_zero, List.set_cons_succ])
      refine wpAnyH_done (by kernel_rfl) ?_ _
      refine NoPanic.normal ?_
      have hb14 : Below w.heap.size w w4 := (hb1.trans (Below.trans (Below.drew (Below.refl _ _)) (hb3.mono hb1.size))).trans (hb4.mono (Nat.le_trans hb1.size hb3.size))
      clear hq3 hq4 hq5 hq6 hc0 hr1 rbk hr hb
      go_upto_region 15 with fail
      go_cut [11] (fun v wx => w4 = wx ∧ v = .int .i64 ((kk s : Nat) : Int))
      case first =>
        rcases (show s < 0 ∨ (0 ≤ s ∧ s ≤ 8) ∨ 8 < s by omega) with hs | ⟨hs, hs'⟩ | hs
        · have e : Hid (kk s = 0) := Lib.hid (by unfold kk; omega)
          go_wp2_with fail
          go_meet
          exact ⟨rfl, by rw [e.out]; rfl⟩
        · have e : Hid (s = ((kk s : Nat) : Int)) := Lib.hid (by unfold kk; omega)
          go_wp2_with fail
          go_meet
          exact ⟨rfl, congrArg (Value.int .i64) e.out⟩
        · have e : Hid (kk s = 8) := Lib.hid (by unfold kk; omega)
          go_wp2_with fail
          go_meet
          exact ⟨rfl, by rw [e.out]; rfl⟩
      case rest =>
        obtain ⟨rfl, rfl⟩ := hcut
        have hk8 := kk_le s
        generalize hZ : kk s = Z at *
        have HZ := Lib.hid hZ
        clear hZ
        have hZI : (Z : Int) ≤ 8 := by omega
        have hbz := Buf.new w4 w4.heap.size 5 #[.int .u8 97] (1, 2) (Nat.le_refl _) (by unfold maxLen; simp)
        go_wp2_with fail
        refine (putLittle_any (X : Int) (by omega) hX s _ w4.heap.size hbz (by simp) (by simp)).mono ?_
        rintro e w5 ⟨vx, rfl, hlx⟩
        rw [Int.toNat_natCast, HZ.out] at hlx
        have hb45 : Below w4.heap.size w4 w5 := ((Below.refl _ _).alloc (Nat.le_refl _) _).trans (hlx.below hbz (by simp))
        obtain ⟨Ax, cx, rfl, hcx, hrx0⟩ := hlx.buf.slice
        have hrx : Rd w5 w5.heap.size Ax (1 + Z) (bys (97 :: M.leB X Z)) := hrx0
        clear hrx0 hlx hbz
        have hbz := Buf.new w5 w5.heap.size 5 #[.int .u8 97] (1, 2) (Nat.le_refl _) (by unfold maxLen; simp)
        go_wp2_with fail
        refine (putBig_any (X : Int) (by omega) hX s _ w5.heap.size hbz (by simp) (by simp)).mono ?_
        rintro e w6 ⟨vy, rfl, hly⟩
        rw [Int.toNat_natCast, HZ.out] at hly
        have hb56 : Below w5.heap.size w5 w6 := ((Below.refl _ _).alloc (Nat.le_refl _) _).trans (hly.below hbz (by simp))
        obtain ⟨Ay, cy, rfl, hcy, hry0⟩ := hly.buf.slice
        have hry : Rd w6 w6.heap.size Ay (1 + Z) (bys (97 :: M.beB X Z)) := hry0
        clear hry0 hly hbz
        have hrx6 := hrx.below hb56
        have hfin : Below w.heap.size w w6 := (hb14.trans (hb45.mono hb14.size)).trans (hb56.mono (Nat.le_trans hb14.size hb45.size))
        obtain ⟨gx, ox, ux, rfl, hgx, hux, hcx0⟩ := hrx6.at_ (k := 0) (by omega)
        obtain ⟨gy, oy, uy, rfl, hgy, huy, hcy0⟩ := hry.at_ (k := 0) (by omega)
        have e97x : ux = .int .u8 97 := by injection hux with h; exact h.symm
        have e97y : uy = .int .u8 97 := by injection huy with h; exact h.symm
        subst e97x
        subst e97y
        rw [Nat.add_zero] at hcx0 hcy0
        clear hux huy
        have hZ1 : (0 : Int) < 1 + (Z : Int) := by omega
        go_wp2_with fail
        go_loop [14, 15] (fun y i => ∃ j : Nat, j ≤ Z ∧ i = .int .i64 j ∧ y = .int .u64 ((X / 256 ^ j : Nat) : Int)) (fun _ i => 8 - (intOf i).toNat)
        case atStart => exact ⟨0, Nat.zero_le _, rfl, by simp⟩
        case round =>
          obtain ⟨j, hj, rfl, rfl⟩ := hrel
          by_cases hlt : j < Z
          · have hD := Lib.hid (show X / 256 ^ (j + 1) = X / 256 ^ j / 256 by rw [Nat.pow_succ, Nat.div_div_eq_div_mul])
            have hYb : ((X / 256 ^ j : Nat) : Int) ≤ 18446744073709551615 := by
              have := Nat.div_le_self X (256 ^ j)
              omega
            obtain ⟨_, _, u1, e1, _, hu1, hc1⟩ := hrx6.at_ (k := 1 + j) (by omega)
            injection e1 with e1
            injection e1 with e1 e1'
            subst e1
            subst e1'
            rw [bys_get _ _ (by simp [M.leB_len]; omega)] at hu1
            injection hu1 with hu1
            subst hu1
            have v1 : (97 :: M.leB X Z).getD (1 + j) 0 = X / 256 ^ j % 256 := by
              have := M.leB_get X Z j hlt
              rw [show 1 + j = j + 1 by omega]; exact this
            rw [v1] at hc1
            obtain ⟨_, _, u2, e2, _, hu2, hc2⟩ := hry.at_ (k := Z - j) (by omega)
            injection e2 with e2
            injection e2 with e2 e2'
            subst e2
            subst e2'
            rw [bys_get _ _ (by simp [M.beB_len]; omega)] at hu2
            injection hu2 with hu2
            subst hu2
            have v2 : (97 :: M.beB X Z).getD (Z - j) 0 = X / 256 ^ j % 256 := by
              have := M.beB_get X Z (Z - j - 1) (by omega)
              rw [show Z - 1 - (Z - j - 1) = j by omega] at this
              rw [show Z - j = (Z - j - 1) + 1 by omega]; exact this
            rw [v2] at hc2
            clear v1 v2
            generalize X / 256 ^ j = Y at *
            have eY : ((Y % 256 : Nat) : Int) = (Y : Int) % 256 := by omega
            rw [eY] at hc1 hc2
            clear eY
            have hlt' : (j : Int) < (Z : Int) := by omega
            have i1 : (1 : Int) + (j : Int) < 1 + (Z : Int) := by omega
            have i2 : (Z : Int) - (j : Int) < 1 + (Z : Int) := by omega
            have i3 : (0 : Int) ≤ (Z : Int) - (j : Int) := by omega
            go_wp2
            go_round
            case rel => exact ⟨j + 1, by omega, by go_num, by rw [hD.out]; simp⟩
            case measure => simp [intOf]; omega
          · have hlt' : decide ((j : Int) < (Z : Int)) = false := by simp; omega
            have hlt2 : (Z : Int) ≤ (j : Int) := by omega
            go_wp2
            go_ret
            exact ⟨rfl, hfin⟩

end Go.Proofs.Ytkbdmbefhndlcaa
