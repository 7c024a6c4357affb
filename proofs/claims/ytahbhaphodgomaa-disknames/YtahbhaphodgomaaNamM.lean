/- Walks: the law's own 'named'; calls on a nil disk. -/
import Derived.Test.YtahbhaphodgomaaE7
namespace Go.Proofs.Ytahbhaphodgomaa
set_option linter.unusedSimpArgs false
set_option linter.unusedVariables false
open Go.RowKit Go.Maps

set_option maxHeartbeats 2000000 in
set_option maxRecDepth 100000 in
theorem lnamed_any (x : List UInt8) (w : World) (hx : x.length ≤ 1000) :
    Calls Try.prog 24 #[str x] w fun e w' => e = .returned (.bool (named x)) ∧ w = w' := by
  obtain ⟨B, hB⟩ : ∃ B, Hid (B = named x) := ⟨_, Lib.hid rfl⟩
  rw [← hB.out]
  have hsz : (⟨x.toArray⟩ : ByteArray).size = x.length := by show x.toArray.size = _; simp
  obtain ⟨n, HN⟩ : ∃ n, Hid (n = x.length) := ⟨_, Lib.hid rfl⟩
  rw [← HN.out] at hsz hx
  unfold str
  clear hx
  by_cases h1 : n = 0
  · obtain rfl : B = false := by rw [hB.out]; have := HN.out; simp [named]; omega
    subst h1
    go_enter Try.func24, Try.ntmps24
    go_wp2_with fail
    go_ret
    exact ⟨rfl, rfl⟩
  · have h1' : ((n : Int) == 0) = false := by simp; omega
    by_cases h2 : (40 : Int) < (n : Int)
    · obtain rfl : B = false := by rw [hB.out]; have := HN.out; simp [named]; omega
      go_enter Try.func24, Try.ntmps24
      go_wp2_with fail
      go_ret
      exact ⟨rfl, rfl⟩
    · have h2' : decide ((40 : Int) < (n : Int)) = false := by simp; omega
      go_enter Try.func24, Try.ntmps24
      go_wp2_with fail
      go_loopg [3] n (fun k i wr => ∃ j : Nat, k = n - j ∧ j ≤ n ∧ i = .int .i64 (j : Int) ∧ Hid (∀ c ∈ x.take j, sgn c.toNat = true) ∧ wr = w)
      case atStart => exact ⟨0, rfl, Nat.zero_le _, rfl, Lib.hid (by simp), rfl⟩
      case round =>
        obtain ⟨j, hk, hj, rfl, HS, rfl⟩ := hrel
        have HK := Lib.hid hk
        clear hk
        by_cases hlt : j < n
        · have hlt' : (j : Int) < (n : Int) := by omega
          have hjx : j < x.length := by rw [← HN.out]; exact hlt
          have hjs : j < (⟨x.toArray⟩ : ByteArray).size := by rw [hsz]; exact hlt
          have hat := Lib.hid (str_at x j hjx)
          obtain ⟨c, EC⟩ : ∃ c, Hid ((x[j]).toNat = c) := ⟨_, Lib.hid rfl⟩
          have hc8 : (c : Int) < 256 := by have := (x[j]).toNat_lt; rw [EC.out] at this; omega
          have hbyte : ((⟨x.toArray⟩ : ByteArray)[j]'hjs).toNat = c := hat.out.trans EC.out
          have HTK : Hid (x.take (j + 1) = x.take j ++ [x[j]]) := Lib.hid (List.take_succ_eq_append_getElem hjx)
          have HBAD : Hid (sgn c = false → B = false) := Lib.hid (fun hs => by
            rw [hB.out]
            simp only [named, Bool.and_eq_false_iff, List.all_eq_false]
            exact Or.inr ⟨x[j], List.getElem_mem _, by rw [EC.out, hs]; decide⟩)
          have HGOOD : Hid (sgn c = true → ∀ d ∈ x.take (j + 1), sgn d.toNat = true) := Lib.hid (fun hs d hd => by
            rw [HTK.out] at hd
            rcases List.mem_append.1 hd with h | h
            · exact HS.out d h
            · simp at h; rw [h, EC.out]; exact hs)
          by_cases a1 : (97 : Int) ≤ (c : Int)
          · by_cases a2 : (c : Int) ≤ 122
            · have hs : sgn c = true := by simp [sgn]; omega
              go_wp2_with fail
              go_roundg (n - (j + 1))
              case measure => have := HK.out; omega
              case rel => exact ⟨j + 1, rfl, by omega, by go_num, Lib.hid (HGOOD.out hs), rfl⟩
            · have a2' : decide ((c : Int) ≤ 122) = false := by simp; omega
              have a3 : (48 : Int) ≤ (c : Int) := by omega
              have a4 : decide ((c : Int) ≤ 57) = false := by simp; omega
              have a5 : ((c : Int) == 46) = false := by simp; omega
              obtain rfl : B = false := HBAD.out (by simp [sgn]; omega)
              go_wp2_with fail
              go_ret
              exact ⟨rfl, rfl⟩
          · have a1' : decide ((97 : Int) ≤ (c : Int)) = false := by simp; omega
            by_cases a3 : (48 : Int) ≤ (c : Int)
            · by_cases a4 : (c : Int) ≤ 57
              · have hs : sgn c = true := by simp [sgn]; omega
                go_wp2_with fail
                go_roundg (n - (j + 1))
                case measure => have := HK.out; omega
                case rel => exact ⟨j + 1, rfl, by omega, by go_num, Lib.hid (HGOOD.out hs), rfl⟩
              · have a4' : decide ((c : Int) ≤ 57) = false := by simp; omega
                have a5 : ((c : Int) == 46) = false := by simp; omega
                obtain rfl : B = false := HBAD.out (by simp [sgn]; omega)
                go_wp2_with fail
                go_ret
                exact ⟨rfl, rfl⟩
            · have a3' : decide ((48 : Int) ≤ (c : Int)) = false := by simp; omega
              by_cases a5 : c = 46
              · have hs : sgn c = true := by simp [sgn, a5]
                have HS1 := Lib.hid (HGOOD.out hs)
                have hs := Lib.hid hs
                subst a5
                go_wp2_with fail
                go_roundg (n - (j + 1))
                case measure => have := HK.out; omega
                case rel => exact ⟨j + 1, rfl, by omega, by go_num, HS1, rfl⟩
              · have a5' : ((c : Int) == 46) = false := by simp; omega
                obtain rfl : B = false := HBAD.out (by simp [sgn]; omega)
                go_wp2_with fail
                go_ret
                exact ⟨rfl, rfl⟩
        · have hlt' : decide ((j : Int) < (n : Int)) = false := by simp; omega
          have hall : x.take j = x := List.take_of_length_le (by rw [← HN.out]; omega)
          obtain rfl : B = true := by
            rw [hB.out]
            have h3 := HS.out
            rw [hall] at h3
            have := HN.out
            simp only [named, Bool.and_eq_true, decide_eq_true_eq, List.all_eq_true]
            exact ⟨by omega, h3⟩
          go_wp2_with fail
          go_ret
          exact ⟨rfl, rfl⟩

/-! A nil disk. -/
theorem nil_find (s : ByteArray) (w : World) : Calls Try.prog 38 #[.pointer none, .string s] w fun e w' => e = .returned (.tuple #[.pointer none, .int .i64 1]) ∧ w = w' := by
  go_enter Try.func38, Try.ntmps38
  go_wp2_with fail
  go_ret2
  exact ⟨rfl, rfl⟩
theorem nil_fuse (n : Int) (w : World) : Calls Try.prog 19 #[.pointer none, .int .i64 n] w fun e w' => e = .returned (.tuple #[]) ∧ w = w' := by
  go_enter Try.func19, Try.ntmps19
  go_wp2_with fail
  (try simp only [Exit.inBlock, Exit.then])
  refine bodyPost_ret (results_none rfl _ _ _) rfl ?_
  exact ⟨rfl, rfl⟩
theorem nil_crash (v : Value) (w : World) : Calls Try.prog 20 #[.pointer none, v] w fun e w' => e = .returned (.tuple #[]) ∧ w = w' := by
  go_enter Try.func20, Try.ntmps20
  go_wp2_with fail
  (try simp only [Exit.inBlock, Exit.then])
  refine bodyPost_ret (results_none rfl _ _ _) rfl ?_
  exact ⟨rfl, rfl⟩
theorem nil_read (s : ByteArray) (a n : Int) (w : World) : Calls Try.prog 17 #[.pointer none, .string s, .int .i64 a, .int .i64 n] w fun e w' => e = .returned (.tuple #[.slice none 0 0, .int .i64 1]) ∧ w = w' := by
  go_enter Try.func17, Try.ntmps17
  go_wp2_with fail
  refine (nil_find s w).mono ?_
  rintro e w1 ⟨rfl, rfl⟩
  go_wp2_with fail
  go_ret2
  exact ⟨rfl, rfl⟩
theorem nil_size (s : ByteArray) (w : World) : Calls Try.prog 25 #[.pointer none, .string s] w fun e w' => e = .returned (.tuple #[.int .i64 0, .int .i64 1]) ∧ w = w' := by
  go_enter Try.func25, Try.ntmps25
  go_wp2_with fail
  refine (nil_find s w).mono ?_
  rintro e w1 ⟨rfl, rfl⟩
  go_wp2_with fail
  go_ret2
  exact ⟨rfl, rfl⟩
theorem nil_create (s : ByteArray) (w : World) : Calls Try.prog 12 #[.pointer none, .string s] w fun e w' => e = .returned (.int .i64 1) ∧ w = w' := by
  go_enter Try.func12, Try.ntmps12
  go_wp2_with fail
  go_ret
  exact ⟨rfl, rfl⟩
theorem nil_append (s : ByteArray) (v : Value) (w : World) : Calls Try.prog 13 #[.pointer none, .string s, v] w fun e w' => e = .returned (.int .i64 1) ∧ w = w' := by
  go_enter Try.func13, Try.ntmps13
  go_wp2_with fail
  refine (nil_find s w).mono ?_
  rintro e w1 ⟨rfl, rfl⟩
  go_wp2_with fail
  go_ret
  exact ⟨rfl, rfl⟩
theorem nil_sync (s : ByteArray) (w : World) : Calls Try.prog 14 #[.pointer none, .string s] w fun e w' => e = .returned (.int .i64 1) ∧ w = w' := by
  go_enter Try.func14, Try.ntmps14
  go_wp2_with fail
  refine (nil_find s w).mono ?_
  rintro e w1 ⟨rfl, rfl⟩
  go_wp2_with fail
  go_ret
  exact ⟨rfl, rfl⟩
theorem nil_rename (s t : ByteArray) (w : World) : Calls Try.prog 15 #[.pointer none, .string s, .string t] w fun e w' => e = .returned (.int .i64 1) ∧ w = w' := by
  go_enter Try.func15, Try.ntmps15
  go_wp2_with fail
  go_ret
  exact ⟨rfl, rfl⟩
theorem nil_remove (s : ByteArray) (w : World) : Calls Try.prog 16 #[.pointer none, .string s] w fun e w' => e = .returned (.int .i64 1) ∧ w = w' := by
  go_enter Try.func16, Try.ntmps16
  go_wp2_with fail
  refine (nil_find s w).mono ?_
  rintro e w1 ⟨rfl, rfl⟩
  go_wp2_with fail
  go_ret
  exact ⟨rfl, rfl⟩
theorem nil_spoil (s : ByteArray) (a b : Int) (w : World) : Calls Try.prog 22 #[.pointer none, .string s, .int .i64 a, .int .u8 b] w fun e w' => e = .returned (.int .i64 1) ∧ w = w' := by
  go_enter Try.func22, Try.ntmps22
  go_wp2_with fail
  refine (nil_find s w).mono ?_
  rintro e w1 ⟨rfl, rfl⟩
  go_wp2_with fail
  go_ret
  exact ⟨rfl, rfl⟩
theorem nil_list (w : World) : Calls Try.prog 27 #[.pointer none] w fun e w' => e = .returned (.slice none 0 0) ∧ w = w' := by
  go_enter Try.func27, Try.ntmps27
  go_wp2_with fail
  go_ret
  exact ⟨rfl, rfl⟩
theorem nil_used (w : World) : Calls Try.prog 28 #[.pointer none] w fun e w' => e = .returned (.int .i64 0) ∧ w = w' := by
  go_enter Try.func28, Try.ntmps28
  go_wp2_with fail
  go_ret
  exact ⟨rfl, rfl⟩
theorem nil_room (w : World) : Calls Try.prog 29 #[.pointer none] w fun e w' => e = .returned (.int .i64 0) ∧ w = w' := by
  go_enter Try.func29, Try.ntmps29
  go_wp2_with fail
  go_ret
  exact ⟨rfl, rfl⟩
theorem nil_down (w : World) : Calls Try.prog 30 #[.pointer none] w fun e w' => e = .returned (.bool false) ∧ w = w' := by
  go_enter Try.func30, Try.ntmps30
  go_wp2_with fail
  go_ret
  exact ⟨rfl, rfl⟩
theorem nil_clone (w : World) : Calls Try.prog 31 #[.pointer none] w fun e w' => e = .returned (.pointer none) ∧ w = w' := by
  go_enter Try.func31, Try.ntmps31
  go_wp2_with fail
  go_ret
  exact ⟨rfl, rfl⟩
end Go.Proofs.Ytahbhaphodgomaa
