/- Walks: the reader's count, text. -/
import Derived.Test.YtkdkihacpjhgmaaY2
namespace Go.Proofs.Ytkdkihacpjhgmaa
set_option linter.unusedSimpArgs false
set_option linter.unusedVariables false
open Go.RowKit

/-- What count notes. -/
def cn (s : TS) (most : Nat) : TS := if M.xe s.1 ≠ 0 then nt s (M.xe s.1) else if most < M.xnum s.1 then nt s 2 else s
theorem xe_is (l : List Nat) : M.xe l = 0 ∨ M.xe l = 2 ∨ M.xe l = 8 := by
  unfold M.xe
  split
  · simp
  · split <;> simp
theorem xk_le (l : List Nat) : M.xk l ≤ l.length ∧ M.xk l ≤ 9 := by
  unfold M.xk
  split
  · next h =>
    have h9 : M.xs (l.getD 0 0) ≤ 8 := by unfold M.xs; split <;> (try split) <;> (try split) <;> omega
    refine ⟨?_, by omega⟩
    unfold M.xe at h
    split at h
    · omega
    · omega
  · omega
theorem tk_bad (s : TS) (k : Nat) (h : s.2 ≠ 0) : tk s k = ([], s) := by unfold tk; rw [if_pos h]
theorem tk_good (s : TS) (k : Nat) (h : s.2 = 0) (hk : k ≤ s.1.length) : tk s k = (s.1.take k, (s.1.drop k, 0)) := by
  unfold tk; rw [if_neg (by simpa using h), if_neg (by omega)]
theorem rC_is (s : TS) (most : Nat) : rC s most = (if (tk (cn s most) (M.xk s.1)).2.2 = 0 then M.xnum s.1 else 0, (tk (cn s most) (M.xk s.1)).2) := by
  unfold rC cn
  by_cases h0 : s.2 = 0
  · have h0' : ¬ (s.2 ≠ 0) := by simpa using h0
    rw [if_neg h0']
    by_cases he : M.xe s.1 = 0
    · have he' : ¬ (M.xe s.1 ≠ 0) := by simpa using he
      simp only [if_neg he']
      by_cases hm : most < M.xnum s.1
      · have hn : nt s 2 = (s.1, 2) := if_pos h0
        simp only [if_pos hm]
        rw [hn, tk_bad _ _ (show ((s.1, 2) : TS).2 ≠ 0 by simp)]
        rfl
      · simp only [if_neg hm]
        rw [tk_good s _ h0 (xk_le _).1]
        rfl
    · have hn : nt s (M.xe s.1) = (s.1, M.xe s.1) := if_pos h0
      have he' : M.xe s.1 ≠ 0 := he
      simp only [if_pos he']
      rw [hn, tk_bad _ _ (show ((s.1, M.xe s.1) : TS).2 ≠ 0 from he)]
      simp only
      rw [if_neg he]
  · have hn : ∀ e, nt s e = s := fun e => if_neg h0
    have h0' : s.2 ≠ 0 := h0
    rw [if_pos h0', hn, hn]
    have : (if M.xe s.1 ≠ 0 then s else if most < M.xnum s.1 then s else s) = s := by split <;> (try split) <;> rfl
    rw [this, tk_bad _ _ h0]
    simp only
    rw [if_neg h0]
theorem xnum_lt (l : List Nat) (hb : B8 l) : M.xnum l < 18446744073709551616 := by
  have hxn : M.xn l < 18446744073709551616 := by
    unfold M.xn
    split
    · have := getD_lt hb 0; omega
    · have h1 := M.lv_lt (l.drop 1) (fun c hc => hb c (List.mem_of_mem_drop hc)) (M.xs (l.getD 0 0))
      have h9 : M.xs (l.getD 0 0) ≤ 8 := by unfold M.xs; split <;> (try split) <;> (try split) <;> omega
      have h2 : 256 ^ M.xs (l.getD 0 0) ≤ 256 ^ 8 := Nat.pow_le_pow_right (by decide) h9
      have e : (256 : Nat) ^ 8 = 18446744073709551616 := by decide
      omega
  unfold M.xnum
  split
  · exact hxn
  · omega
theorem cn_good {s : TS} {most k : Nat} (h : (tk (cn s most) k).2.2 = 0) : M.xe s.1 = 0 ∧ M.xnum s.1 ≤ most := by
  have h1 : (cn s most).2 = 0 := by
    by_cases h0 : (cn s most).2 = 0
    · exact h0
    · rw [tk_bad _ _ h0] at h; exact h
  have h3 : ∀ e, e ≠ 0 → (nt s e).2 ≠ 0 := fun e he => by
    unfold nt
    split
    · exact he
    · next h4 => exact h4
  unfold cn at h1
  split at h1
  · next h2 => exact absurd h1 (h3 _ h2)
  · next h2 =>
    split at h1
    · exact absurd h1 (h3 2 (by decide))
    · next h5 => exact ⟨by simpa using h2, by omega⟩
theorem expand_quiet (A : Option Addr) (n c : Nat) (bs : List Nat) (w : World) (B : Nat) (hr : Rd w B A n (bys bs)) (hb : ∀ c ∈ bs, c < 256) (hn : n ≤ 1000000000) (hc : n ≤ c) (hcm : (c : Int) ≤ 9223372036854775807) (k : Nat) :
    Calls Try.prog 49 #[.slice A n c] (w.drewN k) fun e w'' => e = .returned (.tuple #[.int .u64 (M.xnum bs : Int), .int .i64 (M.xk bs : Int), .int .i64 (M.xe bs : Int)]) ∧ ∃ m, w'' = w.drewN m :=
  (expand_any A n c bs (w.drewN k) B (hr.drewN k) hb hn hc hcm).mono fun _ _ ⟨he, hm⟩ => ⟨he, k, hm.symm⟩

set_option maxHeartbeats 4000000 in
set_option maxRecDepth 100000 in
theorem count_any (w : World) (B g en : Nat) (bs : List Nat) (s : TS) (h : Rx w B g bs en s) (most : Nat) (hm : (most : Int) ≤ 1000000) :
    Calls Try.prog 41 #[.pointer (some ⟨g, 0, none⟩), .int .u64 (most : Int)] w fun ee w' => ee = .returned (.int .i64 ((rC s most).1 : Int)) ∧ Rx w' B g bs en (rC s most).2 ∧ Tch w w' [g] := by
  obtain ⟨i0, hi, hz0, hz1, hz2⟩ := info_parts Try.info5
  have H := Lib.hid h
  have HRC := Lib.hid (rC_is s most)
  have HGOOD := Lib.hid (fun k (hz : (tk (cn s most) k).2.2 = 0) => cn_good hz)
  have HCN : Hid (cn s most = if M.xe s.1 ≠ 0 then nt s (M.xe s.1) else if most < M.xnum s.1 then nt s 2 else s) := Lib.hid rfl
  have HXK := Lib.hid (xk_le s.1)
  have hxe := xe_is s.1
  obtain ⟨A, c, hb, hr, hnc, hcm⟩ := h.box
  have c0 := hb.c0
  have c1 := hb.c1
  have hle := h.le
  have hfew := h.few
  obtain ⟨at', hat⟩ : ∃ a, a = bs.length - s.1.length := ⟨_, rfl⟩
  rw [← hat] at c1
  have hal : at' ≤ bs.length := by omega
  have hsl : ∀ wx : World, _ := fun wx => run_slice_l (P := Try.prog) wx 27 5 i0 Try.underlying27 hi hz1 A bs.length c at' hal .i64 (at' : Int) rfl
  have hrd := hr.drop at' c hal hnc
  rw [← bys_drop, hat, ← h.suf, ← hat] at hrd
  generalize (if c = at' then A else A.map (·.add at')) = V at *
  have hsx : bs.length - at' = s.1.length := by omega
  rw [hsx] at hsl hrd
  have HX := Lib.hid (fun k => expand_quiet V s.1.length (c - at') s.1 w B hrd h.b8 (by omega) (by omega) (by omega) k)
  have hK0 : (bs.length : Int) ≤ 1000000 := by omega
  have ha0 : (at' : Int) ≤ 1000000 := by omega
  have HB := Lib.hid hb
  have HLT : Hid (M.xnum s.1 < 18446744073709551616) := Lib.hid (xnum_lt s.1 h.b8)
  have hnl : (M.xnum s.1 : Int) ≤ 18446744073709551615 := by have := HLT.out; omega
  have HSL := Lib.hid hsl
  generalize rC s most = R at *
  generalize M.xe s.1 = XE at *
  generalize M.xnum s.1 = XN at *
  generalize M.xk s.1 = XK at *
  clear hat h hb hr hrd hle hfew hsx hal hz0 hz2 hsl
  have hsl := HSL.out
  go_enter Try.func41, Try.ntmps41
  go_wp2_with fail
  go_quiet ((go_at_call 49; exact HX.out _))
  clear hsl c0 c1
  by_cases h8 : XE = 8
  · subst h8
    have c2 : (w.drewN nq).cell? ⟨g, 2, none⟩ = some (.int .i64 (en : Int)) := HB.out.c2
    have hte : told en 8 = en := if_pos rfl
    have HN2 := Lib.hid (note_any (w.drewN nq) B g en bs s (H.out.below (bdn w nq)) 8 (.inr rfl))
    rw [hte] at HN2
    clear hte
    go_wp2_with fail
    refine HN2.out.mono ?_
    rintro ee w3 ⟨rfl, h3, t3⟩
    have HX1 := Lib.hid h3
    have TX1 : Hid (Tch w w3 [g]) := Lib.hid ((Tch.of_below [g] (bdn w nq)).trans t3 (fun i hi => .inl hi))
    clear h3 t3
    have HTKE := Lib.hid (take_any w3 B g en bs (nt s 8) HX1.out XK (by have := HXK.out.2; omega))
    have HCNQ : Hid (cn s most = (nt s 8)) := Lib.hid (by rw [HCN.out, if_pos (by decide)])
    rw [HCNQ.out] at HRC HGOOD
    go_wp2_with fail
    refine HTKE.out.mono ?_
    rintro ee w4 ⟨A4, c4, rfl, _, h4, t4⟩
    have HE4 : Hid (Rx w4 B g bs en (tk (nt s 8) XK).2 ∧ Tch w w4 [g]) := Lib.hid ⟨h4, TX1.out.trans t4 (fun i hi => .inl hi)⟩
    obtain ⟨A5, c5, hb5, _⟩ := h4.box
    have d3 := hb5.c3
    obtain ⟨q1, q2⟩ := h4.tld
    by_cases hz : (tk (nt s 8) XK).2.2 = 0
    · exfalso
      have q := HGOOD.out XK hz
      omega
    · have e2 : ((told en (tk (nt s 8) XK).2.2 : Int) != 0) = true := by simp [bne]; intro h1; exact hz (q1.1 (by omega))
      have e3 : ¬ (told en (tk (nt s 8) XK).2.2 : Int) = 0 := by intro h1; exact hz (q1.1 (by omega))
      have HR : Hid (R.1 = 0 ∧ R.2 = (tk (nt s 8) XK).2) := Lib.hid (by rw [HRC.out]; exact ⟨if_neg hz, rfl⟩)
      clear hz q1 q2 hb5 h4 t4
      generalize (told en (tk (nt s 8) XK).2.2 : Int) = E2 at *
      go_wp2
      go_ret
      rw [HR.out.1, HR.out.2]
      exact ⟨rfl, HE4.out⟩
  · have h8' : ¬ (XE : Int) = 8 := by omega
    have h8'' : ((XE : Int) == 8) = false := by simp; omega
    by_cases h0 : XE = 0
    · subst h0
      by_cases hmx : most < XN
      · have hmx' : (most : Int) < (XN : Int) := by omega
        have hte : told en 2 = 2 := if_neg (by decide)
        have HN2 := Lib.hid (note_any (w.drewN nq) B g en bs s (H.out.below (bdn w nq)) 2 (.inl rfl))
        rw [hte] at HN2
        clear hte
        go_wp2_with fail
        refine HN2.out.mono ?_
        rintro ee w3 ⟨rfl, h3, t3⟩
        have HX1 := Lib.hid h3
        have TX1 : Hid (Tch w w3 [g]) := Lib.hid ((Tch.of_below [g] (bdn w nq)).trans t3 (fun i hi => .inl hi))
        clear h3 t3
        have HTKE := Lib.hid (take_any w3 B g en bs (nt s 2) HX1.out XK (by have := HXK.out.2; omega))
        have HCNQ : Hid (cn s most = (nt s 2)) := Lib.hid (by rw [HCN.out, if_neg (by decide), if_pos hmx])
        rw [HCNQ.out] at HRC HGOOD
        go_wp2_with fail
        refine HTKE.out.mono ?_
        rintro ee w4 ⟨A4, c4, rfl, _, h4, t4⟩
        have HE4 : Hid (Rx w4 B g bs en (tk (nt s 2) XK).2 ∧ Tch w w4 [g]) := Lib.hid ⟨h4, TX1.out.trans t4 (fun i hi => .inl hi)⟩
        obtain ⟨A5, c5, hb5, _⟩ := h4.box
        have d3 := hb5.c3
        obtain ⟨q1, q2⟩ := h4.tld
        by_cases hz : (tk (nt s 2) XK).2.2 = 0
        · exfalso
          have q := HGOOD.out XK hz
          omega
        · have e2 : ((told en (tk (nt s 2) XK).2.2 : Int) != 0) = true := by simp [bne]; intro h1; exact hz (q1.1 (by omega))
          have e3 : ¬ (told en (tk (nt s 2) XK).2.2 : Int) = 0 := by intro h1; exact hz (q1.1 (by omega))
          have HR : Hid (R.1 = 0 ∧ R.2 = (tk (nt s 2) XK).2) := Lib.hid (by rw [HRC.out]; exact ⟨if_neg hz, rfl⟩)
          clear hz q1 q2 hb5 h4 t4
          generalize (told en (tk (nt s 2) XK).2.2 : Int) = E2 at *
          go_wp2
          go_ret
          rw [HR.out.1, HR.out.2]
          exact ⟨rfl, HE4.out⟩
      · have hmx' : ¬ (most : Int) < (XN : Int) := by omega
        have HX1 := Lib.hid (H.out.below (bdn w nq))
        have TX1 := Lib.hid (Tch.of_below [g] (bdn w nq))
        have HTKE := Lib.hid (take_any (w.drewN nq) B g en bs s HX1.out XK (by have := HXK.out.2; omega))
        have HCNQ : Hid (cn s most = s) := Lib.hid (by rw [HCN.out, if_neg (by decide), if_neg hmx])
        rw [HCNQ.out] at HRC HGOOD
        go_wp2_with fail
        refine HTKE.out.mono ?_
        rintro ee w4 ⟨A4, c4, rfl, _, h4, t4⟩
        have HE4 : Hid (Rx w4 B g bs en (tk s XK).2 ∧ Tch w w4 [g]) := Lib.hid ⟨h4, TX1.out.trans t4 (fun i hi => .inl hi)⟩
        obtain ⟨A5, c5, hb5, _⟩ := h4.box
        have d3 := hb5.c3
        obtain ⟨q1, q2⟩ := h4.tld
        by_cases hz : (tk s XK).2.2 = 0
        · have e0 := q1.2 hz
          rw [e0] at d3
          have hgo := (HGOOD.out XK hz).2
          have HR : Hid (R.1 = XN ∧ R.2 = (tk s XK).2) := Lib.hid (by rw [HRC.out]; exact ⟨if_pos hz, rfl⟩)
          have hgi : (XN : Int) ≤ 1000000 := by omega
          clear hz q1 q2 hb5 h4 t4 e0
          go_wp2
          go_ret
          rw [HR.out.1, HR.out.2]
          exact ⟨rfl, HE4.out⟩
        · have e2 : ((told en (tk s XK).2.2 : Int) != 0) = true := by simp [bne]; intro h1; exact hz (q1.1 (by omega))
          have e3 : ¬ (told en (tk s XK).2.2 : Int) = 0 := by intro h1; exact hz (q1.1 (by omega))
          have HR : Hid (R.1 = 0 ∧ R.2 = (tk s XK).2) := Lib.hid (by rw [HRC.out]; exact ⟨if_neg hz, rfl⟩)
          clear hz q1 q2 hb5 h4 t4
          generalize (told en (tk s XK).2.2 : Int) = E2 at *
          go_wp2
          go_ret
          rw [HR.out.1, HR.out.2]
          exact ⟨rfl, HE4.out⟩
    · have hX2 : XE = 2 := by omega
      subst hX2
      have hte : told en 2 = 2 := if_neg (by decide)
      have HN2 := Lib.hid (note_any (w.drewN nq) B g en bs s (H.out.below (bdn w nq)) 2 (.inl rfl))
      rw [hte] at HN2
      clear hte
      go_wp2_with fail
      refine HN2.out.mono ?_
      rintro ee w3 ⟨rfl, h3, t3⟩
      have HX1 := Lib.hid h3
      have TX1 : Hid (Tch w w3 [g]) := Lib.hid ((Tch.of_below [g] (bdn w nq)).trans t3 (fun i hi => .inl hi))
      clear h3 t3
      have HTKE := Lib.hid (take_any w3 B g en bs (nt s 2) HX1.out XK (by have := HXK.out.2; omega))
      have HCNQ : Hid (cn s most = (nt s 2)) := Lib.hid (by rw [HCN.out, if_pos (by decide)])
      rw [HCNQ.out] at HRC HGOOD
      go_wp2_with fail
      refine HTKE.out.mono ?_
      rintro ee w4 ⟨A4, c4, rfl, _, h4, t4⟩
      have HE4 : Hid (Rx w4 B g bs en (tk (nt s 2) XK).2 ∧ Tch w w4 [g]) := Lib.hid ⟨h4, TX1.out.trans t4 (fun i hi => .inl hi)⟩
      obtain ⟨A5, c5, hb5, _⟩ := h4.box
      have d3 := hb5.c3
      obtain ⟨q1, q2⟩ := h4.tld
      by_cases hz : (tk (nt s 2) XK).2.2 = 0
      · exfalso
        have q := HGOOD.out XK hz
        omega
      · have e2 : ((told en (tk (nt s 2) XK).2.2 : Int) != 0) = true := by simp [bne]; intro h1; exact hz (q1.1 (by omega))
        have e3 : ¬ (told en (tk (nt s 2) XK).2.2 : Int) = 0 := by intro h1; exact hz (q1.1 (by omega))
        have HR : Hid (R.1 = 0 ∧ R.2 = (tk (nt s 2) XK).2) := Lib.hid (by rw [HRC.out]; exact ⟨if_neg hz, rfl⟩)
        clear hz q1 q2 hb5 h4 t4
        generalize (told en (tk (nt s 2) XK).2.2 : Int) = E2 at *
        go_wp2
        go_ret
        rw [HR.out.1, HR.out.2]
        exact ⟨rfl, HE4.out⟩

theorem rC_le (s : TS) (most : Nat) : (rC s most).1 ≤ most := by
  unfold rC
  split
  · simp
  · split
    · simp
    · split
      · simp
      · simp only; omega
set_option maxHeartbeats 1000000 in
theorem text_any (w : World) (B g en : Nat) (bs : List Nat) (s : TS) (h : Rx w B g bs en s) :
    Calls Try.prog 52 #[.pointer (some ⟨g, 0, none⟩)] w fun ee w' => ee = .returned (.string (strB (rT s).1)) ∧ Rx w' B g bs en (rT s).2 ∧ Tch w w' [g] := by
  have HC := Lib.hid (count_any w B g en bs s h 10000 (by omega))
  have hle := rC_le s 10000
  have HRT : Hid (rT s = tk (rC s 10000).2 (rC s 10000).1) := Lib.hid rfl
  generalize rT s = R at *
  generalize rC s 10000 = T at *
  have HLE := Lib.hid hle
  clear h hle
  go_enter Try.func52, Try.ntmps52
  go_wp2_with fail
  refine HC.out.mono ?_
  rintro ee w2 ⟨rfl, h2, t2⟩
  have HTK := Lib.hid (take_any w2 B g en bs T.2 h2 T.1 (by have := HLE.out; omega))
  have T2 := Lib.hid t2
  clear h2 t2
  go_wp2_with fail
  refine HTK.out.mono ?_
  rintro ee w3 ⟨A, c, rfl, h3, r3, t3⟩
  rw [← HRT.out] at h3 r3 ⊢
  have kcv := run_conv (P := Try.prog) c h3 27 9 5 Try.underlying27 Try.underlying5 Try.underlying9
  have HE : Hid (Rx w3 B g bs en R.2 ∧ Tch w w3 [g]) := Lib.hid ⟨r3, T2.out.trans t3 (fun i hi => .inl hi)⟩
  clear h3 r3 t3
  generalize hts : strB R.1 = TS1 at *
  have HTS := Lib.hid hts
  clear hts
  go_wp2
  go_ret
  exact ⟨by rw [HTS.out]; rfl, HE.out⟩
end Go.Proofs.Ytkdkihacpjhgmaa
