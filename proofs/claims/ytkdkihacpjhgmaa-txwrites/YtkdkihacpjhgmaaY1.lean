/- Walks: the reader's note, take, number. -/
import Derived.Test.YtkdkihacpjhgmaaX9
namespace Go.Proofs.Ytkdkihacpjhgmaa
set_option linter.unusedSimpArgs false
set_option linter.unusedVariables false
open Go.RowKit

/-- A reader in memory: K the bytes that it reads, s what is left of them and the first error. -/
structure Rx (w : World) (B g : Nat) (K : List Nat) (en : Nat) (s : TS) : Prop where
  box : ∃ A c, Bx4 w g (.slice A K.length c) (.int .i64 ((K.length - s.1.length : Nat) : Int)) (.int .i64 (en : Int)) (.int .i64 (told en s.2 : Int)) ∧ Rd w B A K.length (bys K) ∧ K.length ≤ c ∧ (c : Int) ≤ 9223372036854775807
  suf : s.1 = K.drop (K.length - s.1.length)
  le : s.1.length ≤ K.length
  lt : B8 K
  lo : B ≤ g
  few : K.length ≤ 1000000
  en0 : en = 2 ∨ en = 8
  er : s.2 = 0 ∨ s.2 = 2 ∨ s.2 = 8
theorem Rx.g_lt {w : World} {B g en : Nat} {K : List Nat} {s : TS} (h : Rx w B g K en s) : g < w.heap.size := by
  obtain ⟨A, c, hb, _⟩ := h.box
  exact hb.lt
theorem Rx.below {w w' : World} {B g en : Nat} {K : List Nat} {s : TS} (h : Rx w B g K en s) (hb : Below w.heap.size w w') : Rx w' B g K en s := by
  obtain ⟨A, c, h1, h2, h3⟩ := h.box
  exact ⟨⟨A, c, h1.keep (hb.block g h.g_lt), h2.below (hb.mono (by have := h.lo; have := h.g_lt; omega)), h3⟩, h.suf, h.le, h.lt, h.lo, h.few, h.en0, h.er⟩
theorem Rx.b8 {w : World} {B g en : Nat} {K : List Nat} {s : TS} (h : Rx w B g K en s) : B8 s.1 := by
  intro c hc
  rw [h.suf] at hc
  exact h.lt c (List.mem_of_mem_drop hc)
theorem Rx.tld {w : World} {B g en : Nat} {K : List Nat} {s : TS} (h : Rx w B g K en s) : (told en s.2 = 0 ↔ s.2 = 0) ∧ told en s.2 ≤ 8 := by
  have h1 := h.en0
  have h2 := h.er
  unfold told
  split <;> omega

theorem bdn (w : World) (m : Nat) : Below w.heap.size w (w.drewN m) := Below.drewN' (Below.refl _ _) m
theorem bdn2 (w : World) (m k : Nat) : Below w.heap.size w ((w.drewN m).drewN k) := Below.drewN' (Below.drewN' (Below.refl _ _) m) k
def nt (s : TS) (e : Nat) : TS := if s.2 = 0 then (s.1, e) else s

set_option maxHeartbeats 1000000 in
theorem note_any (w : World) (B g en : Nat) (K : List Nat) (s : TS) (h : Rx w B g K en s) (e : Nat) (he : e = 2 ∨ e = 8) :
    Calls Try.prog 50 #[.pointer (some ⟨g, 0, none⟩), .int .i64 (told en e : Int)] w fun ee w' => ee = .returned (.tuple #[]) ∧ Rx w' B g K en (nt s e) ∧ Tch w w' [g] := by
  obtain ⟨A, c, hb, hr, hc⟩ := h.box
  have c3 := hb.c3
  have f3 := hb.cold 3
  obtain ⟨t1, t2⟩ := h.tld
  by_cases h0 : s.2 = 0
  · have e1 : told en s.2 = 0 := t1.2 h0
    have HE : Hid (Rx (w.setCell ⟨g, 3, none⟩ (.int .i64 (told en e : Int))) B g K en (nt s e) ∧ Tch w (w.setCell ⟨g, 3, none⟩ (.int .i64 (told en e : Int))) [g]) := Lib.hid (by
      have hnt : nt s e = (s.1, e) := if_pos h0
      rw [hnt]
      refine ⟨⟨⟨A, c, hb.set3 _, hr.below ((Below.refl B w).setCell (p := ⟨g, 3, none⟩) h.lo _), hc⟩, h.suf, h.le, h.lt, h.lo, h.few, h.en0, by simp only; omega⟩, Tch.of_grown (grown_setCell w _ _) (by simp)⟩)
    rw [e1] at c3
    clear hb hr h h0 e1 t1 t2
    generalize (told en e : Int) = E at *
    go_enter Try.func50, Try.ntmps50
    go_wp2
    go_end0
    exact ⟨rfl, HE.out⟩
  · have HE : Hid (Rx w B g K en (nt s e)) := Lib.hid (by
      have hnt : nt s e = s := if_neg h0
      rw [hnt]; exact h)
    have e2 : ((told en s.2 : Int) == 0) = false := by simp; intro h1; exact h0 (t1.1 (by omega))
    have e3 : ¬ (told en s.2 : Int) = 0 := by intro h1; exact h0 (t1.1 (by omega))
    clear hb hr h h0 t1 t2
    generalize (told en s.2 : Int) = E2 at *
    generalize (told en e : Int) = E at *
    go_enter Try.func50, Try.ntmps50
    go_wp2
    go_end0
    exact ⟨rfl, HE.out, Tch.refl _ _⟩

set_option maxHeartbeats 2000000 in
set_option maxRecDepth 100000 in
theorem take_any (w : World) (B g en : Nat) (K : List Nat) (s : TS) (h : Rx w B g K en s) (k : Nat) (hk : (k : Int) ≤ 1000000) :
    Calls Try.prog 48 #[.pointer (some ⟨g, 0, none⟩), .int .i64 (k : Int)] w fun ee w' => ∃ A c, ee = .returned (.slice A (tk s k).1.length c) ∧ Rd w' B A (tk s k).1.length (bys (tk s k).1) ∧ Rx w' B g K en (tk s k).2 ∧ Tch w w' [g] := by
  obtain ⟨i0, hi, hz0, hz1, hz2⟩ := info_parts Try.info5
  have HNOTE := Lib.hid (fun W (hW : Rx W B g K en s) => note_any W B g en K s hW 8 (.inr rfl))
  have H := Lib.hid h
  have hte : told en 8 = en := if_pos rfl
  rw [hte] at HNOTE
  have HTK : Hid (tk s k = if s.2 ≠ 0 then ([], s) else if s.1.length < k then ([], (s.1, 8)) else (s.1.take k, (s.1.drop k, 0))) := Lib.hid rfl
  obtain ⟨A, c, hb, hr, hnc, hcm⟩ := h.box
  have c0 := hb.c0
  have c1 := hb.c1
  have hle := h.le
  have hfew := h.few
  obtain ⟨at', hat⟩ : ∃ a, a = K.length - s.1.length := ⟨_, rfl⟩
  rw [← hat] at c1
  have hsub : (K.length : Int) - (at' : Int) = (s.1.length : Int) := by omega
  have hal : at' ≤ K.length := by omega
  have HAT := Lib.hid hat
  have hsl0 : (s.1.length : Int) ≤ 1000000 := by omega
  have hK0 : (K.length : Int) ≤ 1000000 := by omega
  have ha0 : (at' : Int) ≤ 1000000 := by omega
  have hwr : IntKind.i64.wrap ((K.length : Int) - (at' : Int)) = (s.1.length : Int) := by rw [hsub]; exact IntWalk.i64_in _ (by omega)
  have HB := Lib.hid hb
  have HR := Lib.hid hr
  have HSUB := Lib.hid hsub
  clear hat hte h hb hr hle hfew hsub hz0 hz2
  by_cases hlt : s.1.length < k
  · have hlt' : (s.1.length : Int) < (k : Int) := by omega
    have c2 := HB.out.c2
    have HRES : Hid ((tk s k).1 = [] ∧ (tk s k).2 = nt s 8) := Lib.hid (by
      rw [HTK.out]
      unfold nt
      by_cases h0 : s.2 = 0
      · rw [if_neg (by simpa using h0), if_pos hlt, if_pos h0]; exact ⟨rfl, rfl⟩
      · rw [if_pos h0, if_neg h0]; exact ⟨rfl, rfl⟩)
    have HSE : Hid ((nt s 8).2 ≠ 0) := Lib.hid (by
      unfold nt
      by_cases h0 : s.2 = 0
      · rw [if_pos h0]; simp
      · rw [if_neg h0]; exact h0)
    generalize tk s k = R at *
    clear HTK hlt
    go_enter Try.func48, Try.ntmps48
    go_wp2_with fail
    go_quiet (fail)
    clear hwr
    have c2' : (w.drewN nq).cell? ⟨g, 2, none⟩ = some (.int .i64 (en : Int)) := c2
    have HN2 := Lib.hid (HNOTE.out (w.drewN nq) (H.out.below ((bdn w nq))))
    clear c2 c0 c1
    go_wp2_with fail
    refine HN2.out.mono ?_
    rintro ee w2 ⟨rfl, h2, t2⟩
    have H2 := Lib.hid h2
    have T2 := Lib.hid t2
    obtain ⟨A2, c2, b2, _⟩ := h2.box
    have d3 := b2.c3
    have e2 : ((told en (nt s 8).2 : Int) != 0) = true := by simp [bne]; intro h1; exact HSE.out (h2.tld.1.1 (by omega))
    have e3 : ¬ (told en (nt s 8).2 : Int) = 0 := by intro h1; exact HSE.out (h2.tld.1.1 (by omega))
    clear h2 t2 b2
    generalize (told en (nt s 8).2 : Int) = E2 at *
    go_wp2
    go_ret
    refine ⟨none, 0, by rw [HRES.out.1]; rfl, by rw [HRES.out.1]; exact Rd.nil, by rw [HRES.out.2]; exact H2.out, ?_⟩
    exact (Tch.of_below _ (bdn w nq)).trans T2.out (fun i hi => .inl hi)
  · have hlt' : ¬ (s.1.length : Int) < (k : Int) := by omega
    have c3 := HB.out.c3
    by_cases h0 : s.2 = 0
    · have e1 : told en s.2 = 0 := H.out.tld.1.2 h0
      rw [e1] at c3
      have HRES : Hid ((tk s k).1 = s.1.take k ∧ (tk s k).2 = (s.1.drop k, 0)) := Lib.hid (by
        rw [HTK.out, if_neg (by simpa using h0), if_neg hlt]; exact ⟨rfl, rfl⟩)
      have hks : k ≤ s.1.length := by omega
      have hak : at' + k ≤ K.length := by have := HSUB.out; omega
      have hsum : (at' : Int) + (k : Int) ≤ 2000000 := by omega
      have hwr2 : IntKind.i64.wrap ((at' : Int) + (k : Int)) = (at' : Int) + (k : Int) := IntWalk.i64_in _ (by omega)
      have hsl : ∀ wx : World, _ := fun wx => run_slice_lh (P := Try.prog) wx 27 5 i0 Try.underlying27 hi hz1 A K.length c at' (at' + k) (by omega) (by omega) .i64 .i64 (at' : Int) ((at' : Int) + (k : Int)) rfl (by omega)
      rw [Nat.add_sub_cancel_left] at hsl
      have f1 := HB.out.cold 1
      obtain ⟨V, hV⟩ : ∃ V, V = (if c = at' then A else A.map (·.add at')) := ⟨_, rfl⟩
      rw [← hV] at hsl
      have HE : Hid (∀ W, Below w.heap.size w W → Rx (W.setCell ⟨g, 1, none⟩ (.int .i64 ((at' : Int) + (k : Int)))) B g K en (s.1.drop k, 0) ∧ Tch w (W.setCell ⟨g, 1, none⟩ (.int .i64 ((at' : Int) + (k : Int)))) [g] ∧
          Rd (W.setCell ⟨g, 1, none⟩ (.int .i64 ((at' : Int) + (k : Int)))) B V k (bys (s.1.take k))) := Lib.hid (fun W hbd => by
        have hl : (s.1.drop k).length = s.1.length - k := List.length_drop
        have hke : K.length - (s.1.drop k).length = at' + k := by have := HAT.out; have := H.out.le; omega
        have h2 := (HB.out.keep (hbd.block g H.out.g_lt)).set1 (.int .i64 ((at' : Int) + (k : Int)))
        have hbs : Below B W (W.setCell ⟨g, 1, none⟩ (.int .i64 ((at' : Int) + (k : Int)))) := (Below.refl B _).setCell (p := ⟨g, 1, none⟩) H.out.lo _
        have hr2 : Rd (W.setCell ⟨g, 1, none⟩ (.int .i64 ((at' : Int) + (k : Int)))) B A K.length (bys K) := (HR.out.below (hbd.mono (by have := H.out.lo; have := H.out.g_lt; omega))).below hbs
        refine ⟨⟨⟨A, c, ?_, hr2, hnc, hcm⟩, ?_, by simp only; rw [hl]; have := H.out.le; omega, H.out.lt, H.out.lo, H.out.few, H.out.en0, .inl rfl⟩, ?_, ?_⟩
        · simp only
          rw [hke]
          have e2 : told en 0 = 0 := by unfold told; rw [if_neg (by decide)]
          rw [e2]
          rw [e1] at h2
          rw [show ((at' + k : Nat) : Int) = (at' : Int) + (k : Int) by omega]
          exact h2
        · simp only
          rw [hke]
          conv => lhs; rw [H.out.suf]
          rw [List.drop_drop, ← HAT.out]
        · exact (Tch.of_below _ hbd).trans (Tch.of_grown (grown_setCell W ⟨g, 1, none⟩ _) (L := [g]) (by simp)) (fun i hi => .inl hi)
        · have := hr2.mid at' (at' + k) c (by omega) hak hnc
          rw [Nat.add_sub_cancel_left, ← hV, ← bys_drop, ← bys_take] at this
          rw [show s.1.take k = (K.drop at').take k by rw [HAT.out, ← H.out.suf]]
          exact this)
      have HL : Hid ((s.1.take k).length = k) := Lib.hid (by rw [List.length_take]; omega)
      generalize tk s k = R at *
      clear HTK hlt h0 e1 hV hks hal
      have HWR2 := Lib.hid hwr2
      have HSL := Lib.hid hsl
      clear hsl hwr2
      go_enter Try.func48, Try.ntmps48
      go_wp2_with fail
      go_quiet (fail)
      clear hwr
      go_wp2_with fail
      have hwr2 := HWR2.out
      have hsl := HSL.out
      go_quiet (fail)
      clear hwr2 hsl
      go_wp2
      go_ret
      exact ⟨V, c - at', by rw [HRES.out.1, HL.out]; rfl, by rw [HRES.out.1, HL.out]; exact (HE.out _ (bdn w _)).2.2, by rw [HRES.out.2]; exact (HE.out _ (bdn w _)).1, (HE.out _ (bdn w _)).2.1⟩
    · have HRES : Hid ((tk s k).1 = [] ∧ (tk s k).2 = s) := Lib.hid (by
        rw [HTK.out, if_pos h0]; exact ⟨rfl, rfl⟩)
      have e2 : ((told en s.2 : Int) != 0) = true := by simp [bne]; intro h1; exact h0 (H.out.tld.1.1 (by omega))
      have e3 : ¬ (told en s.2 : Int) = 0 := by intro h1; exact h0 (H.out.tld.1.1 (by omega))
      generalize tk s k = R at *
      generalize (told en s.2 : Int) = E2 at *
      clear HTK hlt h0
      go_enter Try.func48, Try.ntmps48
      go_wp2_with fail
      go_quiet (fail)
      clear hwr
      go_wp2
      go_ret
      refine ⟨none, 0, by rw [HRES.out.1]; rfl, by rw [HRES.out.1]; exact Rd.nil, by rw [HRES.out.2]; exact H.out.below (bdn w nq), Tch.of_below _ (bdn w nq)⟩

theorem tk_sub (s : TS) (k : Nat) : (∀ c ∈ (tk s k).1, c ∈ s.1) ∧ (tk s k).1.length ≤ s.1.length := by
  unfold tk
  split
  · simp
  · split
    · simp
    · exact ⟨fun c hc => List.mem_of_mem_take hc, by simp only [List.length_take]; omega⟩
theorem Rx.tkb {w : World} {B g en : Nat} {K : List Nat} {s : TS} (h : Rx w B g K en s) (k : Nat) : B8 (tk s k).1 ∧ (tk s k).1.length ≤ 1000000 :=
  ⟨fun c hc => h.b8 c ((tk_sub s k).1 c hc), by have := (tk_sub s k).2; have := h.le; have := h.few; omega⟩

set_option maxHeartbeats 1000000 in
theorem number_any (w : World) (B g en : Nat) (K : List Nat) (s : TS) (h : Rx w B g K en s) (k : Nat) (hk : (k : Int) ≤ 1000000) :
    Calls Try.prog 39 #[.pointer (some ⟨g, 0, none⟩), .int .i64 (k : Int)] w fun ee w' => ee = .returned (.int .u64 ((rN s k).1 : Int)) ∧ Rx w' B g K en (rN s k).2 ∧ Tch w w' [g] := by
  have HTK := Lib.hid (take_any w B g en K s h k hk)
  have HBB := Lib.hid (h.tkb k)
  have HRN : Hid (rN s k = (M.lv (tk s k).1 (min (tk s k).1.length 8), (tk s k).2)) := Lib.hid rfl
  generalize rN s k = R at *
  generalize tk s k = T at *
  clear h
  go_enter Try.func39, Try.ntmps39
  go_wp2_with fail
  refine HTK.out.mono ?_
  rintro ee w2 ⟨A, c, rfl, h2, h3, t3⟩
  have HLT := Lib.hid (little_any A T.1.length c T.1 w2 B h2 HBB.out.1 (by have := HBB.out.2; omega))
  have HE := Lib.hid (And.intro h3 t3)
  clear h2 h3 t3
  go_wp2_with fail
  refine HLT.out.mono ?_
  rintro ee w3 ⟨rfl, rfl⟩
  go_wp2
  go_ret
  rw [HRN.out]
  exact ⟨rfl, HE.out⟩
end Go.Proofs.Ytkdkihacpjhgmaa
