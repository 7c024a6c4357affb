/- Walks: cutPairs. -/
import Derived.Test.YtalcdmpjpphopaaP6
namespace Go.Proofs.Ytalcdmpjpphopaa
set_option linter.unusedSimpArgs false
set_option linter.unusedVariables false
open Go.RowKit

set_option maxHeartbeats 1000000 in
set_option maxRecDepth 100000 in
theorem cut_any (A : Option Addr) (n c : Nat) (bs : List Nat) (w : World) (B : Nat) (hr : Rd w B A n (bys bs)) (hB : B ≤ w.heap.size) (hb : ∀ c ∈ bs, c < 256) (hn : (n : Int) ≤ 1000000000) (hnc : n ≤ c) (hcm : c ≤ maxLen) :
    Calls Try.prog 40 #[.slice A n c] w fun e w' => ∃ v, e = .returned (.tuple #[v, .bool (cutOk bs)]) ∧ (cutOk bs = true → v = .slice A (bodyLen bs) c) ∧ Below w.heap.size w w' := by
  obtain ⟨i0, hi, hz0, hz1, hz2⟩ := info_parts Try.info5
  have hbl : bs.length = n := by have := hr.1; rwa [bys_len] at this
  have HO : Hid (cutOk bs = (decide (4 ≤ n) && decide (M.lv (bs.drop (n - 4)) 4 ≤ (n - 4) / 4) && decide (bodyLen bs ≤ 262144))) := Lib.hid (by unfold cutOk; rw [hbl])
  have HL : Hid (bodyLen bs = n - 4 - M.lv (bs.drop (n - 4)) 4 * 4) := Lib.hid (by unfold bodyLen; rw [hbl])
  have hcm' : (c : Int) ≤ 9223372036854775807 := by unfold maxLen at hcm; omega
  clear hcm
  by_cases h4 : n < 4
  · have h4' : (n : Int) < 4 := by omega
    rw [decide_eq_false (by omega)] at HO
    clear hr HL h4
    go_enter Try.func40, Try.ntmps40
    go_wp2
    go_ret2
    rw [HO.out]
    exact ⟨_, rfl, fun h => by simp at h, Below.refl _ _⟩
  · have h4' : (4 : Int) ≤ (n : Int) := by omega
    rw [decide_eq_true (show 4 ≤ n by omega), Bool.true_and] at HO
    go_enter Try.func40, Try.ntmps40
    go_upto_region 3 with fail
    obtain ⟨m, hm⟩ : ∃ m, m = n - 4 := ⟨_, rfl⟩
    rw [← hm] at HO HL
    have hmi : (n : Int) - 4 = (m : Int) := by omega
    have hmn : m ≤ n := by omega
    have hsl := fun W => run_slice_l (P := Try.prog) W 25 5 i0 Try.underlying25 hi hz1 A n c m hmn .i64 ((m : Nat) : Int) rfl
    have hsh := fun W => run_slice_h (P := Try.prog) W 25 5 i0 Try.underlying25 hi hz1 A n c m (by omega) .i64 ((m : Nat) : Int) rfl
    have hrd := hr.drop m c hmn hnc
    rw [← bys_drop] at hrd
    have h44 : n - m = 4 := by omega
    rw [h44] at hrd hsl
    have HLI := Lib.hid (fun W (hb' : Below w.heap.size w W) => little_any (if c = m then A else A.map (·.add m)) 4 (c - m) (bs.drop m) W B (hrd.below (hb'.mono hB)) (fun x hx => hb x (List.mem_of_mem_drop hx)) (by omega))
    rw [show min 4 8 = 4 from rfl] at HLI
    have hlv := M.lv_lt (bs.drop m) (fun x hx => hb x (List.mem_of_mem_drop hx)) 4
    have e4 : (256 : Nat) ^ 4 = 4294967296 := by decide
    rw [e4] at hlv
    have hlvi : (M.lv (bs.drop m) 4 : Int) < 4294967296 := by omega
    clear hlv
    generalize (if c = m then A else A.map (·.add m)) = A2 at *
    generalize M.lv (bs.drop m) 4 = P at *
    have hmc : (m : Int) ≤ 1000000000 := by omega
    clear hrd hr h4 h44 e4 hm hbl
    go_quiet (fail)
    have hq : Below w.heap.size w (w.drewN nq) := ⟨rfl, rfl, rfl, Nat.le_refl _, fun _ _ => rfl⟩
    have HQ := Lib.hid hq
    have HLI2 := Lib.hid (HLI.out _ hq)
    clear hsl hsh hq
    go_wp2_with fail
    refine HLI2.out.mono ?_
    rintro e w2 ⟨rfl, rfl⟩
    by_cases hP : P ≤ m / 4
    · have hP' : (P : Int) ≤ (m : Int) / 4 := by omega
      rw [decide_eq_true hP, Bool.true_and] at HO
      obtain ⟨K, hK⟩ : ∃ K, K = m - P * 4 := ⟨_, rfl⟩
      rw [← hK] at HL
      have hKi : (m : Int) - (P : Int) * 4 = (K : Int) := by omega
      have hsh := fun W => run_slice_h (P := Try.prog) W 25 5 i0 Try.underlying25 hi hz1 A m c K (by omega) .i64 ((K : Nat) : Int) rfl
      rw [HL.out] at HO
      have hPm : (P : Int) * 4 ≤ (m : Int) := by omega
      have hKb : (K : Int) ≤ 1000000000 := by omega
      clear hK hP hmi hn hB hb hmn hlvi
      by_cases hKK : K ≤ 262144
      · rw [decide_eq_true hKK] at HO
        have hKi2 : (K : Int) ≤ 262144 := by omega
        clear hKK
        go_wp2
        go_ret2
        rw [HO.out, HL.out]
        exact ⟨_, rfl, fun _ => rfl, HQ.out⟩
      · rw [decide_eq_false hKK] at HO
        have hKi2 : (262144 : Int) < (K : Int) := by omega
        clear hKK
        go_wp2
        go_ret2
        rw [HO.out]
        refine ⟨.slice A K c, ?_, fun h => by simp at h, HQ.out⟩
        show Ending.returned (.tuple #[.slice A K c, .bool (decide ((K : Int) ≤ 262144))]) = _
        rw [decide_eq_false (by omega)]
    · have hP' : (m : Int) / 4 < (P : Int) := by omega
      rw [decide_eq_false hP, Bool.false_and] at HO
      go_wp2
      go_ret2
      rw [HO.out]
      exact ⟨_, rfl, fun h => by simp at h, HQ.out⟩
end Go.Proofs.Ytalcdmpjpphopaa
