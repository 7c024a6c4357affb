/- Walks: the reader's witnesses. -/
import Derived.Test.YtkdkihacpjhgmaaY3
namespace Go.Proofs.Ytkdkihacpjhgmaa
set_option linter.unusedSimpArgs false
set_option linter.unusedVariables false
open Go.RowKit

set_option maxHeartbeats 4000000 in
set_option maxRecDepth 100000 in
theorem witnesses_any (w : World) (B g en : Nat) (bs : List Nat) (s : TS) (h : Rx w B g bs en s) :
    Calls Try.prog 40 #[.pointer (some ⟨g, 0, none⟩)] w fun ee w' => ee = .returned (.bool (rW s).1) ∧ Rx w' B g bs en (rW s).2 ∧ Tch w w' [g] := by
  obtain ⟨i0, hi, hz0, hz1, hz2⟩ := info_parts Try.info5
  have H := Lib.hid h
  have HRW : Hid (rW s = if s.2 = 0 ∧ s.1.take 2 = [0, 1] then (true, (s.1.drop 2, 0)) else (false, s)) := Lib.hid rfl
  obtain ⟨A, c, hb, hr, hnc, hcm⟩ := h.box
  have c0 := hb.c0
  have c1 := hb.c1
  have c3 := hb.c3
  have hle := h.le
  have hfew := h.few
  obtain ⟨at', hat⟩ : ∃ a, a = bs.length - s.1.length := ⟨_, rfl⟩
  rw [← hat] at c1
  have hal : at' ≤ bs.length := by omega
  have hsl : ∀ wx : World, _ := fun wx => run_slice_l (P := Try.prog) wx 27 5 i0 Try.underlying27 hi hz1 A bs.length c at' hal .i64 (at' : Int) rfl
  have hrd := hr.drop at' c hal hnc
  rw [← bys_drop, hat, ← h.suf, ← hat] at hrd
  generalize (if c = at' then A else A.map (·.add at')) = V at *
  have hsx : bs.length - at' = s.1.length := by omega
  rw [hsx] at hsl hrd
  have hK0 : (bs.length : Int) ≤ 1000000 := by omega
  have ha0 : (at' : Int) ≤ 1000000 := by omega
  have hs0 : (s.1.length : Int) ≤ 1000000 := by omega
  obtain ⟨q1, q2⟩ := h.tld
  generalize hR : rW s = R at *
  have HSL := Lib.hid hsl
  have HRD := Lib.hid hrd
  have HTKE := Lib.hid (fun W (hW : Rx W B g bs en s) => take_any W B g en bs s hW 2 (by omega))
  clear hat h hb hr hrd hle hfew hsx hal hz0 hz2 hR hsl
  by_cases h0 : s.2 = 0
  · have e0 := q1.2 h0
    rw [e0] at c3
    by_cases h2 : s.1.length < 2
    · have h2' : (s.1.length : Int) < 2 := by omega
      have HR : Hid (R = (false, s)) := Lib.hid (by
        rw [HRW.out, if_neg (fun hx => by have := congrArg List.length hx.2; simp at this; omega)])
      clear h2 q1 q2 e0
      go_enter Try.func40, Try.ntmps40
      go_wp2_with fail
      have hsl := HSL.out
      go_quiet (fail)
      clear hsl c0 c1
      have HE : Hid (Rx (w.drewN nq) B g bs en s ∧ Tch w (w.drewN nq) [g]) := Lib.hid ⟨H.out.below (bdn w nq), Tch.of_below _ (bdn w nq)⟩
      have hx3 : (w.drewN nq).cell? ⟨g, 3, none⟩ = _ := c3
      go_wp2
      go_ret
      rw [HR.out]
      exact ⟨rfl, HE.out⟩
    · obtain ⟨a, b, r, hab⟩ : ∃ a b r, s.1 = a :: b :: r := by
        match hs : s.1, h2 with
        | [], h2 => simp at h2
        | [a], h2 => simp at h2
        | a :: b :: r, _ => exact ⟨a, b, r, rfl⟩
      have h2' : ¬ (s.1.length : Int) < 2 := by omega
      have h20 : 0 < s.1.length := by omega
      have h21 : 1 < s.1.length := by omega
      obtain ⟨gv, ov, rfl, hgv, hcv⟩ := HRD.out.2 h20
      have d0 : w.cell? ⟨gv, ov, none⟩ = some (.int .u8 (a : Int)) := hcv 0 _ (by rw [hab]; rfl)
      have d1 : w.cell? ⟨gv, ov + 1, none⟩ = some (.int .u8 (b : Int)) := hcv 1 _ (by rw [hab]; rfl)
      clear hcv
      by_cases ha : a = 0
      · subst ha
        by_cases hb1 : b = 1
        · subst hb1
          have HR : Hid (R.1 = true ∧ R.2 = (tk s 2).2) := Lib.hid (by
            rw [HRW.out, if_pos ⟨h0, by rw [hab]; rfl⟩, tk_good s 2 h0 (by omega)]
            exact ⟨rfl, rfl⟩)
          have HAB := Lib.hid hab
          clear h2 q1 q2 e0 hab h0
          go_enter Try.func40, Try.ntmps40
          go_wp2_with fail
          have hsl := HSL.out
          go_quiet (fail)
          clear hsl c0 c1
          have HT2 := Lib.hid (HTKE.out (w.drewN nq) (H.out.below (bdn w nq)))
          have HC3 := Lib.hid c3
          have hx3 : (w.drewN nq).cell? ⟨g, 3, none⟩ = some (.int .i64 0) := c3
          have hx0 : (w.drewN nq).cell? ⟨gv, ov, none⟩ = some (.int .u8 0) := d0
          have hx1 : (w.drewN nq).cell? ⟨gv, ov + 1, none⟩ = some (.int .u8 1) := d1
          go_wp2_with fail
          refine HT2.out.mono ?_
          rintro ee w3 ⟨A3, c3', rfl, h3, r3, t3⟩
          have HE : Hid (Rx w3 B g bs en (tk s 2).2 ∧ Tch w w3 [g]) := Lib.hid ⟨r3, (Tch.of_below [g] (bdn w nq)).trans t3 (fun i hi => .inl hi)⟩
          clear h3 r3 t3
          go_wp2
          go_ret
          rw [HR.out.1, HR.out.2]
          exact ⟨rfl, HE.out⟩
        · have e1 : ((b : Int) != 1) = true := by simp [bne]; omega
          have e2 : ((b : Int) == 1) = false := by simp; omega
          have HR : Hid (R = (false, s)) := Lib.hid (by
            rw [HRW.out, if_neg (fun hx => by have := hx.2; rw [hab] at this; simp at this; exact hb1 this)])
          clear h2 q1 q2 e0 hb1 h0
          go_enter Try.func40, Try.ntmps40
          go_wp2_with fail
          have hsl := HSL.out
          go_quiet (fail)
          clear hsl c0 c1
          have HE : Hid (Rx (w.drewN nq) B g bs en s ∧ Tch w (w.drewN nq) [g]) := Lib.hid ⟨H.out.below (bdn w nq), Tch.of_below _ (bdn w nq)⟩
          have hx3 : (w.drewN nq).cell? ⟨g, 3, none⟩ = _ := c3
          have hx0 : (w.drewN nq).cell? ⟨gv, ov, none⟩ = _ := d0
          have hx1 : (w.drewN nq).cell? ⟨gv, ov + 1, none⟩ = _ := d1
          go_wp2
          go_ret
          rw [HR.out]
          exact ⟨rfl, HE.out⟩
      · have e1 : ((a : Int) != 0) = true := by simp [bne]; omega
        have e2 : ((a : Int) == 0) = false := by simp; omega
        have HR : Hid (R = (false, s)) := Lib.hid (by
          rw [HRW.out, if_neg (fun hx => by have := hx.2; rw [hab] at this; simp at this; exact ha this.1)])
        clear h2 q1 q2 e0 ha h0
        go_enter Try.func40, Try.ntmps40
        go_wp2_with fail
        have hsl := HSL.out
        go_quiet (fail)
        clear hsl c0 c1
        have HE : Hid (Rx (w.drewN nq) B g bs en s ∧ Tch w (w.drewN nq) [g]) := Lib.hid ⟨H.out.below (bdn w nq), Tch.of_below _ (bdn w nq)⟩
        have hx3 : (w.drewN nq).cell? ⟨g, 3, none⟩ = _ := c3
        have hx0 : (w.drewN nq).cell? ⟨gv, ov, none⟩ = _ := d0
        have hx1 : (w.drewN nq).cell? ⟨gv, ov + 1, none⟩ = _ := d1
        go_wp2
        go_ret
        rw [HR.out]
        exact ⟨rfl, HE.out⟩
  · have e2 : ((told en s.2 : Int) != 0) = true := by simp [bne]; intro h1; exact h0 (q1.1 (by omega))
    have e3 : ((told en s.2 : Int) == 0) = false := by simp; intro h1; exact h0 (q1.1 (by omega))
    have HR : Hid (R = (false, s)) := Lib.hid (by rw [HRW.out, if_neg (fun hx => h0 hx.1)])
    clear h0 q1 q2
    generalize (told en s.2 : Int) = E2 at *
    go_enter Try.func40, Try.ntmps40
    go_wp2_with fail
    have hsl := HSL.out
    go_quiet (fail)
    clear hsl c0 c1
    have HE : Hid (Rx (w.drewN nq) B g bs en s ∧ Tch w (w.drewN nq) [g]) := Lib.hid ⟨H.out.below (bdn w nq), Tch.of_below _ (bdn w nq)⟩
    have hx3 : (w.drewN nq).cell? ⟨g, 3, none⟩ = _ := c3
    go_wp2
    go_ret
    rw [HR.out]
    exact ⟨rfl, HE.out⟩
end Go.Proofs.Ytkdkihacpjhgmaa
