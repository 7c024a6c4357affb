/- Walks: sign, Named. -/
import Derived.Test.YtahbhaphodgomaaD6
namespace Go.Proofs.Ytahbhaphodgomaa
set_option linter.unusedSimpArgs false
set_option linter.unusedVariables false
open Go.RowKit Go.Maps

def sgn (c : Nat) : Bool := decide (97 ≤ c ∧ c ≤ 122) || decide (48 ≤ c ∧ c ≤ 57) || decide (c = 46)
set_option maxHeartbeats 400000 in
theorem sign_any (c : Nat) (w : World) (hc : (c : Int) < 256) :
    Calls Try.prog 42 #[.int .u8 (c : Int)] w fun e w' => e = .returned (.bool (sgn c)) ∧ w = w' := by
  obtain ⟨B, hB⟩ : ∃ B, Hid (B = sgn c) := ⟨_, Lib.hid rfl⟩
  rw [← hB.out]
  by_cases h1 : (97 : Int) ≤ (c : Int)
  · by_cases h2 : (c : Int) ≤ 122
    · obtain rfl : B = true := by rw [hB.out]; simp [sgn]; omega
      go_enter Try.func42, Try.ntmps42
      go_wp2_with fail
      go_ret
      exact ⟨rfl, rfl⟩
    · have h2' : decide ((c : Int) ≤ 122) = false := by simp; omega
      have h3 : (48 : Int) ≤ (c : Int) := by omega
      have h4 : decide ((c : Int) ≤ 57) = false := by simp; omega
      have h5 : ((c : Int) == 46) = false := by simp; omega
      obtain rfl : B = false := by rw [hB.out]; simp [sgn]; omega
      go_enter Try.func42, Try.ntmps42
      go_wp2_with fail
      go_ret
      exact ⟨rfl, rfl⟩
  · have h1' : decide ((97 : Int) ≤ (c : Int)) = false := by simp; omega
    by_cases h3 : (48 : Int) ≤ (c : Int)
    · by_cases h4 : (c : Int) ≤ 57
      · obtain rfl : B = true := by rw [hB.out]; simp [sgn]; omega
        go_enter Try.func42, Try.ntmps42
        go_wp2_with fail
        go_ret
        exact ⟨rfl, rfl⟩
      · have h4' : decide ((c : Int) ≤ 57) = false := by simp; omega
        have h5 : ((c : Int) == 46) = false := by simp; omega
        obtain rfl : B = false := by rw [hB.out]; simp [sgn]; omega
        go_enter Try.func42, Try.ntmps42
        go_wp2_with fail
        go_ret
        exact ⟨rfl, rfl⟩
    · have h3' : decide ((48 : Int) ≤ (c : Int)) = false := by simp; omega
      by_cases h5 : c = 46
      · subst h5
        obtain rfl : B = true := by rw [hB.out]; decide
        go_enter Try.func42, Try.ntmps42
        go_wp2_with fail
        go_ret
        exact ⟨rfl, rfl⟩
      · have h5' : ((c : Int) == 46) = false := by simp; omega
        obtain rfl : B = false := by rw [hB.out]; simp [sgn]; omega
        go_enter Try.func42, Try.ntmps42
        go_wp2_with fail
        go_ret
        exact ⟨rfl, rfl⟩

def named (x : List UInt8) : Bool := decide (1 ≤ x.length ∧ x.length ≤ 40) && x.all fun c => sgn c.toNat
theorem str_at (x : List UInt8) (k : Nat) (h : k < x.length) : ((⟨x.toArray⟩ : ByteArray)[k]'(by show k < x.toArray.size; simpa using h)).toNat = (x[k]).toNat := rfl
set_option maxHeartbeats 1000000 in
set_option maxRecDepth 100000 in
theorem named_any (x : List UInt8) (w : World) (hx : x.length ≤ 1000) :
    Calls Try.prog 26 #[str x] w fun e w' => e = .returned (.bool (named x)) ∧ w = w' := by
  obtain ⟨B, hB⟩ : ∃ B, Hid (B = named x) := ⟨_, Lib.hid rfl⟩
  rw [← hB.out]
  have hsz : (⟨x.toArray⟩ : ByteArray).size = x.length := by show x.toArray.size = _; simp
  obtain ⟨n, HN⟩ : ∃ n, Hid (n = x.length) := ⟨_, Lib.hid rfl⟩
  rw [← HN.out] at hsz hx
  have HX := Lib.hid hx
  unfold str
  clear hx
  by_cases h1 : (n : Int) < 1
  · obtain rfl : B = false := by rw [hB.out]; have := HN.out; simp [named]; omega
    go_enter Try.func26, Try.ntmps26
    go_wp2_with fail
    go_ret
    exact ⟨rfl, rfl⟩
  · have h1' : decide ((n : Int) < 1) = false := by simp; omega
    by_cases h2 : (40 : Int) < (n : Int)
    · obtain rfl : B = false := by rw [hB.out]; have := HN.out; simp [named]; omega
      go_enter Try.func26, Try.ntmps26
      go_wp2_with fail
      go_ret
      exact ⟨rfl, rfl⟩
    · have h2' : decide ((40 : Int) < (n : Int)) = false := by simp; omega
      go_enter Try.func26, Try.ntmps26
      go_wp2_with fail
      go_loopg [14] n (fun k i wr => ∃ j : Nat, k = n - j ∧ j ≤ n ∧ i = .int .i64 (j : Int) ∧ Hid (∀ c ∈ x.take j, sgn c.toNat = true) ∧ wr = w)
      case atStart => exact ⟨0, rfl, Nat.zero_le _, rfl, Lib.hid (by simp), rfl⟩
      case round =>
        obtain ⟨j, hk, hj, rfl, HS, rfl⟩ := hrel
        have HK := Lib.hid hk
        clear hk
        by_cases hlt : j < n
        · have hlt' : (j : Int) < (n : Int) := by omega
          have hjx : j < x.length := by rw [← HN.out]; exact hlt
          have hjs : j < (⟨x.toArray⟩ : ByteArray).size := by rw [hsz]; exact hlt
          have hat := Lib.hid (str_at x j hjx)
          obtain ⟨c, EC⟩ : ∃ c, Hid ((x[j]).toNat = c) := ⟨_, Lib.hid rfl⟩
          have hc8 : (c : Int) < 256 := by have := (x[j]).toNat_lt; rw [EC.out] at this; omega
          have hbyte : ((⟨x.toArray⟩ : ByteArray)[j]'hjs).toNat = c := hat.out.trans EC.out
          have HSG := Lib.hid (sign_any c wr hc8)
          have HTK : Hid (x.take (j + 1) = x.take j ++ [x[j]]) := Lib.hid (List.take_succ_eq_append_getElem hjx)
          cases hs : sgn c with
          | true =>
            rw [hs] at HSG
            have HC := Lib.hid hs
            clear hs
            go_wp2_with fail
            refine HSG.out.mono ?_
            rintro e w1 ⟨rfl, rfl⟩
            go_wp2_with fail
            go_roundg (n - (j + 1))
            case measure => have := HK.out; omega
            case rel =>
              refine ⟨j + 1, rfl, by omega, by go_num, Lib.hid ?_, rfl⟩
              rw [HTK.out]
              intro d hd
              rcases List.mem_append.1 hd with h | h
              · exact HS.out d h
              · simp at h; rw [h, EC.out]; exact HC.out
          | false =>
            rw [hs] at HSG
            obtain rfl : B = false := by
              rw [hB.out]
              simp only [named, Bool.and_eq_false_iff, List.all_eq_false]
              exact Or.inr ⟨x[j], List.getElem_mem _, by rw [EC.out, hs]; decide⟩
            clear hs
            go_wp2_with fail
            refine HSG.out.mono ?_
            rintro e w1 ⟨rfl, rfl⟩
            go_wp2_with fail
            go_ret
            exact ⟨rfl, rfl⟩
        · have hlt' : decide ((j : Int) < (n : Int)) = false := by simp; omega
          have hall : x.take j = x := List.take_of_length_le (by rw [← HN.out]; omega)
          obtain rfl : B = true := by
            rw [hB.out]
            have h3 := HS.out
            rw [hall] at h3
            have := HN.out
            simp only [named, Bool.and_eq_true, decide_eq_true_eq, List.all_eq_true]
            exact ⟨by omega, h3⟩
          go_wp2_with fail
          go_ret
          exact ⟨rfl, rfl⟩
end Go.Proofs.Ytahbhaphodgomaa
