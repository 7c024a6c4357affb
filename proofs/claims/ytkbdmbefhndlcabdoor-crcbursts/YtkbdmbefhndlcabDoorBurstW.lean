/- The walk of CrcBursts. -/
import Derived.Test.YtkbdmbefhndlcabDoorKnownW
import Derived.Test.YtkbdmbefhndlcabDoorNum
namespace Go.Proofs.YtkbdmbefhndlcabDoor
set_option linter.unusedSimpArgs false
set_option linter.unusedVariables false
open Go.RowKit

theorem i64_and65535 (n : Int) : bits .and .i64 n 65535 = n % 65536 := by
  have h63 : (BitVec.ofInt 64 65535).toNat = 2 ^ 16 - 1 := by decide
  have key : (BitVec.ofInt 64 n &&& BitVec.ofInt 64 65535).toNat = (n % ((2 ^ 64 : Nat) : Int)).toNat % 2 ^ 16 := by
    rw [BitVec.toNat_and, BitVec.toNat_ofInt, h63, Nat.and_two_pow_sub_one_eq_mod]
  show IntKind.i64.wrap ((BitVec.ofInt 64 n &&& BitVec.ofInt 64 65535).toNat : Nat) = n % 65536
  rw [key, IntKind.wrap_i64]
  omega

set_option maxHeartbeats 1000000 in
set_option maxRecDepth 100000 in
theorem burst_early (A : Option Addr) (n c : Nat) (x : Int) (N : Nat) (w : World) (ht : TabAt w) (h : n = 0 ∨ (2000 : Int) < (n : Int) ∨ N = 0) :
    Calls Tryd.prog 6 #[.slice A n c, .int .i64 x, .int .u32 (N : Int)] w fun e w' => e = .returned (.bool true) ∧ Below w.heap.size w w' := by
  have HT := Lib.hid ht
  clear ht
  by_cases h0 : n = 0
  · subst h0
    clear h
    go_enter Tryd.func6, Tryd.ntmps6
    go_wp2_with fail
    refine (head_any _ HT.out).mono ?_
    rintro e w1 ⟨rfl, hw1⟩
    go_wp2_with fail
    go_ret
    exact ⟨rfl, hw1⟩
  · have h0' : ((n : Int) == 0) = false := by simpa using h0
    have h0'' : ¬ (n : Int) = 0 := by omega
    by_cases h2 : (2000 : Int) < (n : Int)
    · clear h
      go_enter Tryd.func6, Tryd.ntmps6
      go_wp2_with fail
      refine (head_any _ HT.out).mono ?_
      rintro e w1 ⟨rfl, hw1⟩
      go_wp2_with fail
      go_ret
      exact ⟨rfl, hw1⟩
    · have d2 : decide ((2000 : Int) < (n : Int)) = false := by simp; omega
      obtain rfl : N = 0 := by omega
      clear h
      go_enter Tryd.func6, Tryd.ntmps6
      go_wp2_with fail
      refine (head_any _ HT.out).mono ?_
      rintro e w1 ⟨rfl, hw1⟩
      go_wp2_with fail
      go_ret
      exact ⟨rfl, hw1⟩

set_option maxHeartbeats 1000000 in
set_option maxRecDepth 100000 in
theorem burst_walk (A : Option Addr) (n c : Nat) (l : List Nat) (x : Int) (N : Nat) (hN : (N : Int) < 4294967296) (w : World) (hr : Rd w w.heap.size A n (bys l)) (hb : ∀ c ∈ l, c < 256) (ht : TabAt w)
    (h0 : 0 < n) (h2 : (n : Int) ≤ 2000) (hN0 : 0 < N) :
    Calls Tryd.prog 6 #[.slice A n c, .int .i64 x, .int .u32 (N : Int)] w fun e w' => e = .returned (.bool true) ∧ Below w.heap.size w w' := by
  obtain ⟨i0, hi, hz0, hz1, hz2⟩ := info_parts Tryd.info5
  have HT := Lib.hid ht
  clear ht
  have hL : Hid (l.length = n) := Lib.hid (by have := hr.1; rwa [bys_len] at this)
  have HN := Lib.hid hN
  obtain ⟨M, hM, hx⟩ : ∃ M : Nat, M < 65536 ∧ bits .and .i64 x 65535 = (M : Int) := ⟨(x % 65536).toNat, by omega, by rw [i64_and65535]; omega⟩
  have HM := Lib.hid hM
  clear hM
  have htm : (M : Int).tmod (8 * (n : Int)) = ((M % (8 * n) : Nat) : Int) := by
    rw [Int.tmod_eq_emod_of_nonneg (by omega), Int.natCast_emod, Int.natCast_mul]
    rfl
  have hT : M % (8 * n) < 8 * n := Nat.mod_lt _ (by omega)
  generalize M % (8 * n) = T at *
  have e1 : ((n : Int) == 0) = false := by simp; omega
  have e2 : decide ((2000 : Int) < (n : Int)) = false := by simp; omega
  have e3 : ((N : Int) == 0) = false := by simp; omega
  have e1' : ¬ (n : Int) = 0 := by omega
  have e3' : ¬ (N : Int) = 0 := by omega
  go_enter Tryd.func6, Tryd.ntmps6
  go_wp2_with fail
  refine (head_any _ HT.out).mono ?_
  rintro e w1 ⟨rfl, hw1⟩
  have hs1 := hw1.size
  have ha1 := hr.below hw1
  obtain ⟨g, off, rfl, hg, hcs⟩ := ha1.2 h0
  have hA : (w1.alloc (.cells #[] 5)).ownsRow w1.heap.size 5 1 (.slice (some ⟨w1.heap.size, 0, none⟩) 0 0) 0 [] := World.ownsRow_lit w1 #[] 0 (Nat.le_refl _) (by unfold maxLen; omega) rfl
  have hA0 : Below w1.heap.size w1 (w1.alloc (.cells #[] 5)) := (Below.refl _ _).alloc (Nat.le_refl _) _
  have hnews : ∀ j u, (bys l)[j]? = some u → (w1.alloc (.cells #[] 5)).cell? ((⟨g, off, none⟩ : Addr).add j) = some u := by
    intro j u hu
    rw [Addr.add_lit, hA0.cell (by simp only []; omega)]
    exact hcs j u hu
  go_wp2_with (at_builtin; refine wpList_append_own_at _ rfl (.tmp 30) (.tmp 31) 22 rfl w1.heap.size 5 i0 (.int .u8 0) 1 1 Tryd.underlying22 hi hz0 hz1 hz2 rfl (by decide) _ 0 _ rfl hA ⟨g, off, none⟩ n _ _ rfl ?a1 hnews (bys_one _) ?a2 ?a3 ?a4 ?next1)
  case a1 => rw [bys_len, hL.out]; omega
  case a2 => unfold maxLen; omega
  case a3 => omega
  case a4 => simp
  case next1 =>
    intro v1 w2 r1 r2 r3 r4
    have hB1 := hA0.grown r2 (by simp) fun k hk => (own_lt hA k hk).1
    have r1' : w2.ownsRow w1.heap.size 5 1 v1 n (bys l) := by simpa using r1
    clear r1 r2 r3 r4 hnews hA hA0
    obtain ⟨g1, cap1, rfl, hg1, hg1', hcap1, hcm1⟩ := own_open r1' h0
    have hTi : (T : Int) < 8 * (n : Int) := by omega
    have hw1s := hB1.size
    go_wp2_with fail
    go_loopg [8, 9] 32 (fun k tv i wr => ∃ (j : Nat) (m : List Nat), k = 32 - j ∧ j ≤ 32 ∧ i = .int .i64 (j : Int) ∧ tv = .bool (decide (N % 2 ^ j ≠ 0)) ∧ Below w1.heap.size w1 wr ∧ wr.ownsRow w1.heap.size 5 1 (.slice (some ⟨g1, 0, none⟩) n cap1) n (bys m) ∧ (∀ c ∈ m, c < 256) ∧ m.length = n ∧ num m = num l ^^^ 2 ^ T * (N % 2 ^ j))
    case atStart =>
      exact ⟨0, l, rfl, Nat.zero_le _, rfl, by simp [Nat.mod_one], hB1, r1', hb, hL.out, by simp [Nat.mod_one]⟩
    case round =>
      clear r1' hB1 hw1s
      obtain ⟨j, m, hk, hj, rfl, rfl, hbw, hO, hmb, hml, hnum⟩ := hrel
      have hK := Lib.hid hk
      have hML := Lib.hid hml
      have hNUM := Lib.hid hnum
      clear hk hml hnum
      by_cases hin : j < 32 ∧ T + j < 8 * n
      · obtain ⟨hj32, hjn⟩ := hin
        have hj32' : (j : Int) < 32 := by omega
        have hjn' : (T : Int) + (j : Int) < 8 * (n : Int) := by omega
        have hwa : IntKind.i64.wrap ((T : Int) + (j : Int)) = (T : Int) + (j : Int) := by rw [IntWalk.i64_in _ (by omega)]
        have hwb : IntKind.i64.wrap (8 * (n : Int)) = 8 * (n : Int) := by rw [IntWalk.i64_in _ (by omega)]
        generalize hdt : decide (N % 2 ^ j ≠ 0) = dt at *
        have HDT := Lib.hid hdt
        clear hdt
        clear hcm1 hcs
        go_upto_region 11 with fail
        have hbl : N / 2 ^ j % 2 = 0 ∨ N / 2 ^ j % 2 = 1 := by omega
        have hand : bits .and .u32 ((N : Int) / 2 ^ j) 1 = ((N / 2 ^ j % 2 : Nat) : Int) := by
          have := u32_and_nat (N / 2 ^ j) 1 (Nat.lt_of_le_of_lt (Nat.div_le_self _ _) (by have := HN.out; omega)) (by omega)
          rw [Nat.and_one_is_mod] at this
          rw [← this]
          simp
        generalize hbte : N / 2 ^ j % 2 = bt at *
        have HBT := Lib.hid hbte
        clear hbte
        rcases hbl with rfl | rfl
        · go_wp2_with fail
          go_roundg (32 - (j + 1))
          case measure => have := hK.out; omega
          case rel =>
            refine ⟨j + 1, m, rfl, by omega, by go_num, ?_, hbw, hO, hmb, hML.out, ?_⟩
            · rw [pat_same N j HBT.out, HDT.out]
            · rw [pat_same N j HBT.out]; exact hNUM.out
        · go_upto_region 12 with fail
          have hpl : (T + j) / 8 < n := by omega
          have hturn := Lib.hid (num_turn l m T N j hmb (by rw [hML.out]; exact hpl) hNUM.out HBT.out)
          have hcell : wr.cell? ⟨g1, (T + j) / 8, none⟩ = some (.int .u8 ((m.getD ((T + j) / 8) 0 : Nat) : Int)) := (hO.cellAt _ (by omega)).trans (bys_get m _ (by rw [hML.out]; exact hpl))
          have hcold := hO.frozenAt ((T + j) / 8)
          have hmp : m.getD ((T + j) / 8) 0 < 256 := getD_lt hmb _
          have hr8 : (T + j) % 8 < 8 := Nat.mod_lt _ (by decide)
          have hy : 2 ^ ((T + j) % 8) < 256 := Nat.pow_lt_pow_right (a := 2) (by decide) hr8
          have q1 : ((T : Int) + (j : Int)) / 8 = (((T + j) / 8 : Nat) : Int) := by omega
          have q2 : ((T : Int) + (j : Int)) % 8 = (((T + j) % 8 : Nat) : Int) := by omega
          have q3 : ((T : Int) + (j : Int)).tdiv 8 = (((T + j) / 8 : Nat) : Int) := by rw [Int.tdiv_eq_ediv_of_nonneg (by omega)]; omega
          have q4 : ((T : Int) + (j : Int)).tmod 8 = (((T + j) % 8 : Nat) : Int) := by rw [Int.tmod_eq_emod_of_nonneg (by omega)]; omega
          generalize (T + j) / 8 = p at *
          have hpow : ((2 : Int) ^ ((T + j) % 8)) = ((2 ^ ((T + j) % 8) : Nat) : Int) := by simp
          generalize (T + j) % 8 = rr at *
          have hwy : IntKind.u8.wrap ((2 : Int) ^ rr) = ((2 ^ rr : Nat) : Int) := by
            rw [hpow]
            generalize 2 ^ rr = y at hy ⊢
            rw [IntWalk.u8_in _ (by omega)]
          have hxor := u8_xor_nat (m.getD p 0) (2 ^ rr) hmp hy
          have hnl := xor_lt8 (m.getD p 0) (2 ^ rr) hmp hy
          generalize m.getD p 0 ^^^ 2 ^ rr = z at *
          generalize 2 ^ rr = y at *
          generalize m.getD p 0 = mp at *
          obtain ⟨st1, st2⟩ := hO.stored p (.int .u8 (z : Int))
          have hbw2 := hbw.setCell (p := ⟨g1, p, none⟩) hg1 (.int .u8 (z : Int))
          have hst : (bys m).set p (.int .u8 (z : Int)) = bys (m.set p z) := by rw [bys, bys, List.map_set]
          rw [hst] at st1
          have hmb2 := set_lt m p z hmb hnl
          have hml2 : (m.set p z).length = n := by rw [List.length_set, hML.out]
          have hpn : (p : Int) < (n : Int) := by omega
          clear hpow hst hnl hmp hy
          go_wp2_with fail
          go_roundg (32 - (j + 1))
          case measure => have := hK.out; omega
          case rel =>
            refine ⟨j + 1, m.set p z, rfl, by omega, by go_num, ?_, hbw2, st1, hmb2, hml2, hturn.out⟩
            rw [decide_eq_true (pat_ne N j HBT.out)]
      · have hNb : N < 4294967296 := by have := HN.out; omega
        have hFb := Lib.hid (show N % 2 ^ j < 4294967296 from Nat.lt_of_le_of_lt (Nat.mod_le _ _) hNb)
        clear hNb
        have hfin := hw1.trans (hbw.mono hs1)
        have hT1 := Lib.hid (HT.out.below hfin HT.out.1)
        have hn9 : n ≤ 1000000000 := by omega
        have hrm := own_rd hO
        have hrl := ha1.below (hbw.mono hs1)
        have hT8 : T ≤ 8 * l.length := by rw [hL.out]; omega
        have hne := Lib.hid (fun hF0 => burst_ne l m T (N % 2 ^ j) hb hmb (by rw [hML.out, hL.out]) hT8 hFb.out hF0 hNUM.out)
        clear hcs hcm1
        have hwa : IntKind.i64.wrap ((T : Int) + (j : Int)) = (T : Int) + (j : Int) := by rw [IntWalk.i64_in _ (by omega)]
        have hwb : IntKind.i64.wrap (8 * (n : Int)) = 8 * (n : Int) := by rw [IntWalk.i64_in _ (by omega)]
        have C1 := fun w0 (h : wr = w0) => by
          subst h
          exact sum_any (some ⟨g1, 0, none⟩) n cap1 m wr _ hrm hmb hn9 hT1.out
        have C2 := fun w0 (h : wr = w0) => by
          subst h
          exact sum_any (some ⟨g, off, none⟩) n c l wr _ hrl hb hn9 hT1.out
        generalize nt (crcR (nt 0) m) = qa at *
        generalize nt (crcR (nt 0) l) = qb at *
        by_cases hF : N % 2 ^ j = 0
        · rw [decide_eq_false (by simpa using hF)]
          by_cases hj32 : (j : Int) < 32
          · have hjn : ¬ ((T : Int) + (j : Int) < 8 * (n : Int)) := by omega
            have hjn' : 8 * (n : Int) ≤ (T : Int) + (j : Int) := by omega
            go_wp2_with fail
            go_ret
            exact ⟨rfl, hfin⟩
          · have hj32' : decide ((j : Int) < 32) = false := by simpa using hj32
            go_wp2_with fail
            go_ret
            exact ⟨rfl, hfin⟩
        · rw [decide_eq_true hF]
          have hqq : ¬ qa = qb := hne.out hF
          have hqq' : ¬ (qa : Int) = (qb : Int) := by omega
          by_cases hj32 : (j : Int) < 32
          · have hjn : ¬ ((T : Int) + (j : Int) < 8 * (n : Int)) := by omega
            have hjn' : 8 * (n : Int) ≤ (T : Int) + (j : Int) := by omega
            go_wp2_with fail
            refine (C1 wr rfl).mono ?_
            rintro e w3 ⟨rfl, rfl⟩
            go_wp2_with fail
            refine (C2 wr rfl).mono ?_
            rintro e w3 ⟨rfl, rfl⟩
            go_wp2
            go_ret
            exact ⟨by simp; omega, hfin⟩
          · have hj32' : decide ((j : Int) < 32) = false := by simpa using hj32
            go_wp2_with fail
            refine (C1 wr rfl).mono ?_
            rintro e w3 ⟨rfl, rfl⟩
            go_wp2_with fail
            refine (C2 wr rfl).mono ?_
            rintro e w3 ⟨rfl, rfl⟩
            go_wp2
            go_ret
            exact ⟨by simp; omega, hfin⟩
end Go.Proofs.YtkbdmbefhndlcabDoor
