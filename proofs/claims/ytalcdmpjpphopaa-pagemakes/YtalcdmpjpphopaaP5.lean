/- Walks: the reader's number, text. -/
import Derived.Test.YtalcdmpjpphopaaP4
namespace Go.Proofs.Ytalcdmpjpphopaa
set_option linter.unusedSimpArgs false
set_option linter.unusedVariables false
open Go.RowKit

theorem ge_zero {bs : List Nat} {a : Nat} (hL : M.Lead bs a) (h : M.ge bs a = 0) : a + 1 ≤ bs.length := by
  have h1 := hL.le
  unfold M.ge at h
  split at h
  · omega
  · omega
theorem gn_lt {bs : List Nat} {a : Nat} (hb : ∀ x ∈ bs, x < 256) (hL : M.Lead bs a) : M.gn bs a < 18446744073709551616 := by
  unfold M.gn
  split
  · next h =>
    have h9 := hL.nine
    by_cases e : a = 9
    · subst e
      have hge := h
      unfold M.ge at hge
      split at hge
      · omega
      · split at hge
        · omega
        · next h2 =>
          have h3 : bs.getD 9 0 ≤ 1 := by omega
          have := M.gval_lt' bs 9 1 (by omega)
          have e2 : (128 : Nat) ^ 9 = 9223372036854775808 := by decide
          omega
    · have h1 := M.gval_lt bs (a + 1)
      have h2 : 128 ^ (a + 1) ≤ 128 ^ 9 := Nat.pow_le_pow_right (by decide) (by omega)
      have e2 : (128 : Nat) ^ 9 = 9223372036854775808 := by decide
      omega
  · omega
theorem rdN_lt (s : St) (hb : ∀ x ∈ s.1, x < 256) : (rdN s).1 < 18446744073709551616 := by
  unfold rdN
  split
  · exact gn_lt hb (lead9 s.1)
  · simp

set_option maxHeartbeats 1000000 in
set_option maxRecDepth 100000 in
theorem number_any (w : World) (B gr : Nat) (s : St) (h : Rdr w B gr s) :
    Calls Try.prog 45 #[.pointer (some ⟨gr, 0, none⟩)] w fun e w' => e = .returned (.int .u64 (((rdN s).1 : Nat) : Int)) ∧ Rdr w' B gr (rdN s).2 ∧ Tch w w' [gr] := by
  obtain ⟨i0, hi, hz0, hz1, hz2⟩ := info_parts Try.info5
  have HSTOP := Lib.hid (stop_any w B gr s h)
  have hL := lead9 s.1
  have HN : Hid (rdN s = if M.ge s.1 (ld s.1 9) = 0 then (M.gn s.1 (ld s.1 9), (s.1.drop (ld s.1 9 + 1), s.2)) else (0, bad)) := Lib.hid rfl
  obtain ⟨A, c, hb, hr, hnc, hcm⟩ := h.box
  have HG := Lib.hid (get_any A s.1.length c s.1 w B hr h.lt (by have := h.few; omega) (ld s.1 9) hL)
  have h0 := hb.c0
  have hfew := h.few
  by_cases hge : M.ge s.1 (ld s.1 9) = 0
  · have hk := ge_zero hL hge
    have hgk : M.gk s.1 (ld s.1 9) = ld s.1 9 + 1 := if_pos hge
    rw [hge, hgk] at HG
    rw [if_pos hge] at HN
    have f0 := hb.cold 0
    generalize ld s.1 9 + 1 = k at *
    have hsl := run_slice_l (P := Try.prog) w 25 5 i0 Try.underlying25 hi hz1 A s.1.length c k hk .i64 ((k : Nat) : Int) rfl
    have hrd := hr.drop k c hk hnc
    have HE : Hid (Rdr (w.setCell ⟨gr, 0, none⟩ (.slice (if c = k then A else A.map (·.add k)) (s.1.length - k) (c - k))) B gr (s.1.drop k, s.2) ∧ Tch w (w.setCell ⟨gr, 0, none⟩ (.slice (if c = k then A else A.map (·.add k)) (s.1.length - k) (c - k))) [gr]) := Lib.hid (by
      have b1 := hb.set0 (.slice (if c = k then A else A.map (·.add k)) (s.1.length - k) (c - k))
      have hl : (s.1.drop k).length = s.1.length - k := List.length_drop
      refine ⟨⟨⟨_, _, by rw [hl]; exact b1, ?_, by rw [hl]; omega, by omega⟩, fun x hx => h.lt x (List.mem_of_mem_drop hx), h.lo, by rw [hl]; omega⟩, Tch.of_grown (grown_setCell w _ _) (by simp)⟩
      rw [hl, bys_drop]
      have := (Below.refl B w).setCell (p := ⟨gr, 0, none⟩) h.lo (.slice (if c = k then A else A.map (·.add k)) (s.1.length - k) (c - k))
      exact hrd.below this)
    generalize (if c = k then A else A.map (·.add k)) = A2 at *
    have hki : (0 : Int) ≤ (k : Int) := by omega
    generalize M.gn s.1 (ld s.1 9) = gnv at *
    clear hb hr h hrd hL hge hgk HSTOP
    go_enter Try.func45, Try.ntmps45
    go_wp2_with fail
    refine HG.out.mono ?_
    rintro e w2 ⟨rfl, rfl⟩
    go_wp2
    go_ret
    rw [HN.out]
    exact ⟨rfl, HE.out⟩
  · rw [if_neg hge] at HN
    have hgk : M.gk s.1 (ld s.1 9) = 0 := if_neg hge
    generalize M.ge s.1 (ld s.1 9) = ev at *
    have hne : ((ev : Int) != 0) = true := by simp [bne]; omega
    generalize M.gn s.1 (ld s.1 9) = gnv at *
    rw [hgk] at HG
    clear hb hr hL hgk
    go_enter Try.func45, Try.ntmps45
    go_wp2_with fail
    refine HG.out.mono ?_
    rintro e w2 ⟨rfl, rfl⟩
    go_wp2_with fail
    refine HSTOP.out.mono ?_
    rintro e w3 ⟨rfl, h3, t3⟩
    have HE := Lib.hid (And.intro h3 t3)
    clear h3 t3
    go_wp2
    go_ret
    rw [HN.out]
    exact ⟨rfl, HE.out⟩

set_option maxHeartbeats 1000000 in
set_option maxRecDepth 100000 in
theorem text_any (w : World) (B gr : Nat) (s : St) (n : Nat) (hn : n < 18446744073709551616) (h : Rdr w B gr s) :
    Calls Try.prog 47 #[.pointer (some ⟨gr, 0, none⟩), .int .u64 (n : Int)] w fun e w' => e = .returned (.string (strB (rdT s n).1)) ∧ Rdr w' B gr (rdT s n).2 ∧ Tch w w' [gr] := by
  obtain ⟨i0, hi, hz0, hz1, hz2⟩ := info_parts Try.info5
  have HSTOP := Lib.hid (stop_any w B gr s h)
  have HN : Hid (rdT s n = if s.1.length < n then ([], bad) else (s.1.take n, (s.1.drop n, s.2))) := Lib.hid rfl
  obtain ⟨A, c, hb, hr, hnc, hcm⟩ := h.box
  have h0 := hb.c0
  have hfew := h.few
  have hfi : (s.1.length : Int) ≤ 1000000 := by omega
  by_cases hlt : s.1.length < n
  · rw [if_pos hlt] at HN
    have hlt' : (s.1.length : Int) < (n : Int) := by omega
    have hni : (n : Int) < 18446744073709551616 := by omega
    clear hb hr h hlt
    go_enter Try.func47, Try.ntmps47
    go_wp2_with fail
    refine HSTOP.out.mono ?_
    rintro e w3 ⟨rfl, h3, t3⟩
    have HE := Lib.hid (And.intro h3 t3)
    clear h3 t3
    go_wp2
    go_ret
    rw [HN.out]
    exact ⟨rfl, HE.out⟩
  · rw [if_neg hlt] at HN
    have hle : (n : Int) ≤ (s.1.length : Int) := by omega
    have hk : n ≤ s.1.length := by omega
    have f0 := hb.cold 0
    have hsl := run_slice_l (P := Try.prog) w 25 5 i0 Try.underlying25 hi hz1 A s.1.length c n hk .u64 ((n : Nat) : Int) rfl
    have hsh := run_slice_h (P := Try.prog) w 25 5 i0 Try.underlying25 hi hz1 A s.1.length c n (by omega) .u64 ((n : Nat) : Int) rfl
    have hrt := hr.take n hk
    rw [← bys_take] at hrt
    have kcv := run_conv (P := Try.prog) c hrt 25 9 5 Try.underlying25 Try.underlying5 Try.underlying9
    have hrd := hr.drop n c hk hnc
    have HE : Hid (Rdr (w.setCell ⟨gr, 0, none⟩ (.slice (if c = n then A else A.map (·.add n)) (s.1.length - n) (c - n))) B gr (s.1.drop n, s.2) ∧ Tch w (w.setCell ⟨gr, 0, none⟩ (.slice (if c = n then A else A.map (·.add n)) (s.1.length - n) (c - n))) [gr]) := Lib.hid (by
      have b1 := hb.set0 (.slice (if c = n then A else A.map (·.add n)) (s.1.length - n) (c - n))
      have hl : (s.1.drop n).length = s.1.length - n := List.length_drop
      refine ⟨⟨⟨_, _, by rw [hl]; exact b1, ?_, by rw [hl]; omega, by omega⟩, fun x hx => h.lt x (List.mem_of_mem_drop hx), h.lo, by rw [hl]; omega⟩, Tch.of_grown (grown_setCell w _ _) (by simp)⟩
      rw [hl, bys_drop]
      have := (Below.refl B w).setCell (p := ⟨gr, 0, none⟩) h.lo (.slice (if c = n then A else A.map (·.add n)) (s.1.length - n) (c - n))
      exact hrd.below this)
    generalize (if c = n then A else A.map (·.add n)) = A2 at *
    generalize hts : strB (s.1.take n) = TS at *
    have HTS := Lib.hid hts
    clear hts
    clear hb hr h hrd hrt HSTOP hlt hk
    go_enter Try.func47, Try.ntmps47
    go_wp2
    go_ret
    rw [HN.out]
    exact ⟨by rw [HTS.out]; rfl, HE.out⟩
end Go.Proofs.Ytalcdmpjpphopaa
