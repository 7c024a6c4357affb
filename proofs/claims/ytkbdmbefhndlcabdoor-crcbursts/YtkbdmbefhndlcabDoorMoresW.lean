/- The walk of CrcMores. -/
import Derived.Test.YtkbdmbefhndlcabDoorW1
import Derived.Test.YtkbdmbefhndlcabDoorStr
namespace Go.Proofs.YtkbdmbefhndlcabDoor
set_option linter.unusedSimpArgs false
set_option linter.unusedVariables false
open Go.RowKit

theorem Tryd.info5 : (Tryd.prog.info? 5).map (fun i => (i.zero, i.size, i.bytes)) = some (some (.int .u8 0), 1, 1) := by kernel_rfl

theorem mores_long (A1 A2 A3 : Option Addr) (n1 n2 n3 c1 c2 c3 : Nat) (w : World) (ht : TabAt w) (h : (2000 : Int) < n1 ∨ (2000 : Int) < n2 ∨ (2000 : Int) < n3) :
    Calls Tryd.prog 4 #[.slice A1 n1 c1, .slice A2 n2 c2, .slice A3 n3 c3] w fun e w' => e = .returned (.bool true) ∧ Below w.heap.size w w' := by
  have HT := Lib.hid ht
  clear ht
  by_cases h1 : (2000 : Int) < n1
  · go_enter Tryd.func4, Tryd.ntmps4
    go_wp2_with fail
    refine (head_any _ HT.out).mono ?_
    rintro e w1 ⟨rfl, hb1⟩
    go_wp2_with fail
    go_ret
    exact ⟨rfl, hb1⟩
  · have h1d : decide ((2000 : Int) < n1) = false := by simp; omega
    by_cases h2 : (2000 : Int) < n2
    · clear h
      go_enter Tryd.func4, Tryd.ntmps4
      go_wp2_with fail
      refine (head_any _ HT.out).mono ?_
      rintro e w1 ⟨rfl, hb1⟩
      go_wp2_with fail
      go_ret
      exact ⟨rfl, hb1⟩
    · have h2d : decide ((2000 : Int) < n2) = false := by simp; omega
      have h3 : (2000 : Int) < n3 := by omega
      clear h
      go_enter Tryd.func4, Tryd.ntmps4
      go_wp2_with fail
      refine (head_any _ HT.out).mono ?_
      rintro e w1 ⟨rfl, hb1⟩
      go_wp2_with fail
      go_ret
      exact ⟨rfl, hb1⟩

set_option maxHeartbeats 1000000 in
set_option maxRecDepth 100000 in
theorem mores_walk (A1 A2 A3 : Option Addr) (n1 n2 n3 c1 c2 c3 : Nat) (l1 l2 l3 : List Nat) (w : World) (hr1 : Rd w w.heap.size A1 n1 (bys l1)) (hr2 : Rd w w.heap.size A2 n2 (bys l2)) (hr3 : Rd w w.heap.size A3 n3 (bys l3))
    (hb1 : ∀ c ∈ l1, c < 256) (hb2 : ∀ c ∈ l2, c < 256) (hb3 : ∀ c ∈ l3, c < 256) (ht : TabAt w) (h1 : (n1 : Int) ≤ 2000) (h2 : (n2 : Int) ≤ 2000) (h3 : (n3 : Int) ≤ 2000) :
    Calls Tryd.prog 4 #[.slice A1 n1 c1, .slice A2 n2 c2, .slice A3 n3 c3] w fun e w' => e = .returned (.bool true) ∧ Below w.heap.size w w' := by
  obtain ⟨i0, hi, hz0, hz1, hz2⟩ := info_parts Tryd.info5
  have HT := Lib.hid ht
  clear ht
  have d1 : decide ((2000 : Int) < n1) = false := by simp; omega
  have d2 : decide ((2000 : Int) < n2) = false := by simp; omega
  have d3 : decide ((2000 : Int) < n3) = false := by simp; omega
  have hn1 : n1 ≤ 2000 := by omega
  have hn2 : n2 ≤ 2000 := by omega
  have hn3 : n3 ≤ 2000 := by omega
  have b1 := Lib.hid (nt_lt _ (crcR_lt l1 (nt 0) (nt_lt 0 (by omega)) hb1))
  have b2 := Lib.hid (nt_lt _ (crcR_lt l2 _ (crcR_lt l1 (nt 0) (nt_lt 0 (by omega)) hb1) hb2))
  have e1 := Lib.hid (nt_nt (crcR (nt 0) l1))
  have e2 := Lib.hid (nt_nt (crcR (crcR (nt 0) l1) l2))
  have e3 := Lib.hid (show crcR (nt 0) (l1 ++ l2 ++ l3) = crcR (crcR (crcR (nt 0) l1) l2) l3 by rw [crcR_app, crcR_app])
  go_enter Tryd.func4, Tryd.ntmps4
  go_wp2_with fail
  refine (head_any _ HT.out).mono ?_
  rintro e w1 ⟨rfl, hw1⟩
  have hT1 := Lib.hid (HT.out.below hw1 HT.out.1)
  have ha1 := hr1.below hw1
  have ha2 := hr2.below hw1
  have ha3 := hr3.below hw1
  have hB := Buf.new w1 w1.heap.size 5 #[] (0, 0) (Nat.le_refl _) (by unfold maxLen; simp)
  have hs1 := hw1.size
  have ha1' := ha1.alloc hs1 (.cells #[] 5)
  go_wp2_with (at_builtin; refine wpList_append_buf _ rfl (.tmp 23) (.tmp 24) 22 rfl w1.heap.size 5 i0 (.int .u8 0) 1 Tryd.underlying22 hi hz0 hz1 hz2 rfl rfl hB rfl ha1' (bys_one _) ?c1 ?c2 (by simp) ?c3)
  case c1 => unfold maxLen; simp; omega
  case c2 => simp; omega
  case c3 =>
    intro v2 w2 r1 r2 r3
    have hl2 : Laid (w1.alloc (.cells #[] 5)) w1.heap.size (.slice (some ⟨w1.heap.size, 0, none⟩) 0 0) w2 v2 n1 (bys l1) := ⟨by simpa using r1, r2, by simpa using r3⟩
    clear r1 r2 r3
    have hw2 : Below w1.heap.size w1 w2 := ((Below.refl _ _).alloc (Nat.le_refl _) _).trans (hl2.below hB (by simp))
    have ha2' := ha2.below (hw2.mono hs1)
    have hs2 := hw2.size
    go_wp2_with (at_builtin; refine wpList_append_buf _ rfl (.tmp 25) (.tmp 26) 22 rfl w1.heap.size 5 i0 (.int .u8 0) 1 Tryd.underlying22 hi hz0 hz1 hz2 rfl rfl hl2.buf rfl ha2' (bys_one _) ?d1 ?d2 hs2 ?d3)
    case d1 => unfold maxLen; omega
    case d2 => omega
    case d3 =>
      intro v3 w3 r1 r2 r3
      have hl3 := hl2.trans ⟨r1, r2, r3⟩
      clear r1 r2 r3
      have hw3 : Below w1.heap.size w1 w3 := ((Below.refl _ _).alloc (Nat.le_refl _) _).trans (hl3.below hB (by simp))
      have ha3' := ha3.below (hw3.mono hs1)
      have hs3 := hw3.size
      go_wp2_with (at_builtin; refine wpList_append_buf _ rfl (.tmp 27) (.tmp 28) 22 rfl w1.heap.size 5 i0 (.int .u8 0) 1 Tryd.underlying22 hi hz0 hz1 hz2 rfl rfl hl3.buf rfl ha3' (bys_one _) ?f1 ?f2 hs3 ?f3)
      case f1 => unfold maxLen; omega
      case f2 => omega
      case f3 =>
        intro v4 w4 r1 r2 r3
        have hl4 := hl3.trans ⟨r1, r2, r3⟩
        clear r1 r2 r3
        have hw4 : Below w1.heap.size w1 w4 := ((Below.refl _ _).alloc (Nat.le_refl _) _).trans (hl4.below hB (by simp))
        obtain ⟨A4, c4, rfl, hc4, hr4⟩ := hl4.buf.slice
        have hr4' : Rd w4 w4.heap.size A4 (n1 + n2 + n3) (bys (l1 ++ l2 ++ l3)) := by rw [bys_app, bys_app, List.append_assoc]; exact hr4
        clear hr4 hl4 hl3 hl2 ha3' ha2' ha1'
        have k1 := ha1.below (hw4.mono hs1)
        have k2 := ha2.below (hw4.mono hs1)
        have k3 := ha3.below (hw4.mono hs1)
        have hT4 := Lib.hid (hT1.out.below hw4 hT1.out.1)
        have hfin := hw1.trans (hw4.mono hs1)
        have hball : ∀ y ∈ l1 ++ l2 ++ l3, y < 256 := by
          intro y hy
          simp only [List.mem_append] at hy
          rcases hy with (hy | hy) | hy
          · exact hb1 y hy
          · exact hb2 y hy
          · exact hb3 y hy
        generalize hq1 : nt (crcR (nt 0) l1) = q1 at *
        have H1 := Lib.hid hq1
        clear hq1
        go_wp2_with fail
        refine (sum_any A1 n1 c1 l1 w4 _ k1 hb1 (by omega) hT4.out).mono ?_
        rintro e w5 ⟨rfl, rfl⟩
        rw [H1.out]
        go_wp2_with fail
        refine (more_any q1 (by have := b1.out; omega) A2 n2 c2 l2 w4 _ k2 hb2 (by omega) hT4.out).mono ?_
        rintro e w5 ⟨rfl, rfl⟩
        rw [e1.out]
        generalize hq2 : nt (crcR (crcR (nt 0) l1) l2) = q2 at *
        have H2 := Lib.hid hq2
        clear hq2
        go_wp2_with fail
        refine (more_any q2 (by have := b2.out; omega) A3 n3 c3 l3 w4 _ k3 hb3 (by omega) hT4.out).mono ?_
        rintro e w5 ⟨rfl, rfl⟩
        rw [e2.out]
        go_wp2_with fail
        refine (sum_any A4 _ c4 (l1 ++ l2 ++ l3) w4 _ hr4' hball (by omega) hT4.out).mono ?_
        rintro e w5 ⟨rfl, rfl⟩
        rw [e3.out]
        generalize nt (crcR (crcR (crcR (nt 0) l1) l2) l3) = q3 at *
        go_wp2_with fail
        refine (more_any 0 (by omega) A1 n1 c1 l1 w4 _ k1 hb1 (by omega) hT4.out).mono ?_
        rintro e w5 ⟨rfl, rfl⟩
        rw [H1.out]
        go_wp2_with fail
        refine (sum_any A1 n1 c1 l1 w4 _ k1 hb1 (by omega) hT4.out).mono ?_
        rintro e w5 ⟨rfl, rfl⟩
        rw [H1.out]
        go_wp2_with fail
        refine (sum_any A1 n1 c1 l1 w4 _ k1 hb1 (by omega) hT4.out).mono ?_
        rintro e w5 ⟨rfl, rfl⟩
        rw [H1.out]
        go_wp2_with fail
        refine (more_any q1 (by have := b1.out; omega) none 0 0 [] w4 0 Rd.nil (by simp) (by omega) hT4.out).mono ?_
        rintro e w5 ⟨rfl, rfl⟩
        rw [show nt (crcR (nt q1) []) = q1 from nt_nt q1]
        go_wp2_with fail
        refine (sum_any A1 n1 c1 l1 w4 _ k1 hb1 (by omega) hT4.out).mono ?_
        rintro e w5 ⟨rfl, rfl⟩
        rw [H1.out]
        go_wp2
        go_ret
        exact ⟨by simp, hfin⟩
end Go.Proofs.YtkbdmbefhndlcabDoor
