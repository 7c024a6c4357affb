/- The walk of RecordPuts. -/
import Derived.Test.YtahbhaphodgomabDoorR6
namespace Go.Proofs.YtahbhaphodgomabDoor
set_option linter.unusedSimpArgs false
set_option linter.unusedVariables false
open Go.RowKit

set_option maxHeartbeats 1000000 in
theorem puts_early (A : Option Addr) (n c : Nat) (B : Option Addr) (L d : Nat) (C : Option Addr) (m f : Nat) (w : World) (ht : TabAt w) (h : (300 : Int) < (n : Int) ∨ (300 : Int) < (L : Int) ∨ (300 : Int) < (m : Int)) :
    Calls Tryd.prog 3 #[.slice A n c, .slice B L d, .slice C m f] w fun e w' => e = .returned (.bool true) ∧ Below w.heap.size w w' := by
  have HT := Lib.hid ht
  clear ht
  by_cases h1 : (300 : Int) < (n : Int)
  · clear h
    go_enter Tryd.func3, Tryd.ntmps3
    go_wp2_with fail
    refine (head_any _ HT.out).mono ?_
    rintro e w1 ⟨rfl, hb1⟩
    go_wp2_with fail
    go_ret
    exact ⟨rfl, hb1⟩
  · have h1' : decide ((300 : Int) < (n : Int)) = false := by simp; omega
    by_cases h2 : (300 : Int) < (L : Int)
    · clear h
      go_enter Tryd.func3, Tryd.ntmps3
      go_wp2_with fail
      refine (head_any _ HT.out).mono ?_
      rintro e w1 ⟨rfl, hb1⟩
      go_wp2_with fail
      go_ret
      exact ⟨rfl, hb1⟩
    · have h2' : decide ((300 : Int) < (L : Int)) = false := by simp; omega
      have h3 : (300 : Int) < (m : Int) := by omega
      clear h
      go_enter Tryd.func3, Tryd.ntmps3
      go_wp2_with fail
      refine (head_any _ HT.out).mono ?_
      rintro e w1 ⟨rfl, hb1⟩
      go_wp2_with fail
      go_ret
      exact ⟨rfl, hb1⟩

set_option maxHeartbeats 1000000 in
set_option maxRecDepth 100000 in
theorem puts_walk (A : Option Addr) (n c : Nat) (B : Option Addr) (L dc : Nat) (C : Option Addr) (m f : Nat) (bs d ms : List Nat) (w : World) (ht : TabAt w)
    (hr : Rd w w.heap.size A n (bys bs)) (hb : ∀ c ∈ bs, c < 256) (hrd : Rd w w.heap.size B L (bys d)) (hd : ∀ c ∈ d, c < 256) (hrm : Rd w w.heap.size C m (bys ms)) (hm : ∀ c ∈ ms, c < 256)
    (h1 : (n : Int) ≤ 300) (h2 : (L : Int) ≤ 300) (h3 : (m : Int) ≤ 300) :
    Calls Tryd.prog 3 #[.slice A n c, .slice B L dc, .slice C m f] w fun e w' => e = .returned (.bool true) ∧ Below w.heap.size w w' := by
  obtain ⟨i0, hi, hz0, hz1, hz2⟩ := info_parts Tryd.info5
  have HT := Lib.hid ht
  have HD := Lib.hid hd
  have HM := Lib.hid hm
  have hdl : d.length = L := by have := hrd.1; rwa [bys_len] at this
  have HDL := Lib.hid hdl
  have d1 : decide ((300 : Int) < (n : Int)) = false := by simp; omega
  have d2 : decide ((300 : Int) < (L : Int)) = false := by simp; omega
  have d3 : decide ((300 : Int) < (m : Int)) = false := by simp; omega
  clear ht hb hd hm hdl
  go_enter Tryd.func3, Tryd.ntmps3
  go_wp2_with fail
  refine (head_any _ HT.out).mono ?_
  rintro e w1 ⟨rfl, hb1⟩
  have hs1 := hb1.size
  have hb0 := Buf.new w1 w1.heap.size 5 #[] (0, 0) (Nat.le_refl _) (by unfold maxLen; simp)
  have hba : Below w1.heap.size w1 (w1.alloc (.cells #[] 5)) := (Below.refl _ _).alloc (Nat.le_refl _) _
  have hr1 := hr.below (hb1.trans (hba.mono hs1))
  go_wp2_with (at_builtin; refine wpList_append_buf _ rfl (.tmp 29) (.tmp 30) 22 rfl w1.heap.size 5 i0 (.int .u8 0) 1 Tryd.underlying22 hi hz0 hz1 hz2 rfl rfl hb0 rfl hr1 (bys_one _) ?b1 ?b2 (by simp) ?next)
  case b1 => unfold maxLen; first | omega | (simp; omega)
  case b2 => first | omega | (simp; omega)
  case next =>
    intro v2 w2 r1 r2 r3
    have u2 : Buf w2 w1.heap.size v2 n (bys bs) := by simpa using r1
    have hB2 : Below w1.heap.size w1 w2 := hba.grown r2 (by simp) (fun k hk => by simp [Value.ownBlock] at hk; omega)
    have hB2w := hb1.trans (hB2.mono hs1)
    have hs2 := hB2.size
    have hrd2 := hrd.below hB2w
    clear r1 r2 r3 hb0 hba hr1
    have hap : ∀ g off, B = some ⟨g, off, none⟩ → 0 < L → v2.ownBlock ≠ some g := by
      intro g off e hL hv
      obtain ⟨g', off', e', hg', _⟩ := hrd.2 hL
      rw [e] at e'
      injection e' with e'
      injection e' with e1
      have := (u2.lt g hv).1
      omega
    go_wp2_with fail
    refine (put_any B L dc d w2 w1.heap.size u2 (by omega) hs2 (hrd2.up hB2w.size) HD.out (by omega) hap (HT.out.below hB2w HT.out.1)).mono ?_
    rintro e w3 ⟨v3, rfl, hl3⟩
    have hB3 := hB2.trans (hl3.below u2 hs2)
    have hB3w := hb1.trans (hB3.mono hs1)
    have u3 := hl3.buf
    have hrd3 := hrd.below hB3w
    clear hl3 u2 hB2 hB2w hrd2 hap
    go_wp2_with fail
    refine (of_any B L dc d w3 (hrd3.up hB3w.size) HD.out (by omega)).mono ?_
    rintro e w4 ⟨v4, rfl, u4, hb4⟩
    have u3' := u3.below hb4 (fun k hk => (u3.lt k hk).2)
    have hB4w := hB3w.trans (hb4.mono hB3w.size)
    obtain ⟨A3, c3, rfl, _, _, hr3⟩ := u3'.rd
    obtain ⟨A4, c4, rfl, _, _, hr4⟩ := u4.rd
    have hra := hr.below hB4w
    rw [← bys_app] at hr3
    have cv1 := run_conv (P := Tryd.prog) c3 hr3 22 9 5 Tryd.underlying22 Tryd.underlying5 Tryd.underlying9
    have cv2 := run_conv (P := Tryd.prog) c hra 22 9 5 Tryd.underlying22 Tryd.underlying5 Tryd.underlying9
    have cv3 := run_conv (P := Tryd.prog) c4 hr4 22 9 5 Tryd.underlying22 Tryd.underlying5 Tryd.underlying9
    have hsz1 : (strB bs).size ≤ 300 := by rw [strB_size]; have := hr.1; rw [bys_len] at this; omega
    have hsz2 : (strB (recB d)).size ≤ 400 := by rw [strB_size, recB_len, HDL.out]; omega
    have happ := strB_app bs (recB d)
    have hsame := strB_same (bs ++ recB d)
    go_upto_region 9 with fail
    clear cv1 cv2 cv3 hsz1 hsz2 happ hsame hr3 u3 u3'
    have hn0 := Buf.new w4 w4.heap.size 5 #[] (0, 0) (Nat.le_refl _) (by unfold maxLen; simp)
    have hba4 : Below w4.heap.size w4 (w4.alloc (.cells #[] 5)) := (Below.refl _ _).alloc (Nat.le_refl _) _
    have hr4a := hr4.below hba4
    go_wp2_with (at_builtin; refine wpList_append_buf _ rfl (.tmp 51) (.tmp 52) 22 rfl w4.heap.size 5 i0 (.int .u8 0) 1 Tryd.underlying22 hi hz0 hz1 hz2 rfl rfl hn0 rfl hr4a (bys_one _) ?b3 ?b4 (by simp) ?next2)
    case b3 => unfold maxLen; first | omega | (simp; omega)
    case b4 => first | omega | (simp; omega)
    case next2 =>
      intro v5 w5 r1 r2 r3
      have u5 : Buf w5 w4.heap.size v5 (12 + L) (bys (recB d)) := by simpa using r1
      have hB5 : Below w4.heap.size w4 w5 := hba4.grown r2 (by simp) (fun k hk => by simp [Value.ownBlock] at hk; omega)
      have hB5w := hB4w.trans (hB5.mono hB4w.size)
      have hs5 := hB5.size
      have hrm5 := hrm.below hB5w
      clear r1 r2 r3 hn0 hba4 hr4a
      go_wp2_with (at_builtin; refine wpList_append_buf _ rfl (.tmp 53) (.tmp 54) 22 rfl w4.heap.size 5 i0 (.int .u8 0) 1 Tryd.underlying22 hi hz0 hz1 hz2 rfl rfl u5 rfl hrm5 (bys_one _) ?b5 ?b6 hs5 ?next3)
      case b5 => unfold maxLen; omega
      case b6 => omega
      case next3 =>
        intro v6 w6 r1 r2 r3
        have hB6 := hB5.grown r2 hs5 (fun k hk => (u5.lt k hk).1)
        have hB6w := hB4w.trans (hB6.mono hB4w.size)
        obtain ⟨A6, c6, rfl, hc6, hcm6, hr6⟩ := r1.rd
        rw [← bys_app] at hr6
        have hnr := next_rec d ms (by rw [HDL.out]; omega)
        have hbb : ∀ c ∈ recB d ++ ms, c < 256 := by
          intro c hc
          simp only [List.mem_append] at hc
          rcases hc with hc | hc
          · exact recB_lt d HD.out c hc
          · exact HM.out c hc
        have HN := Lib.hid (next_any A6 (12 + L + m) c6 (recB d ++ ms) w6 hr6 hbb (by omega) hc6 hcm6 (HT.out.below hB6w HT.out.1))
        clear r1 r2 r3 u5 hr6 hB5 hrm5
        go_wp2_with fail
        refine HN.out.mono ?_
        rintro e w7 ⟨v7, rfl, hl7⟩
        rw [hnr.1, hnr.2.2, HDL.out]
        rw [hnr.2.1, HDL.out] at hl7
        have hB7 := hl7.below (Buf.nil w6 _) (Nat.le_refl _)
        have hB7w := hB6w.trans (hB7.mono hB6w.size)
        obtain ⟨A7, c7, rfl, _, _, hr7⟩ := laid_len hl7
        have hrd7 := hrd.below hB7w
        have cv1 := run_conv (P := Tryd.prog) c7 hr7 22 9 5 Tryd.underlying22 Tryd.underlying5 Tryd.underlying9
        have cv2 := run_conv (P := Tryd.prog) dc hrd7 22 9 5 Tryd.underlying22 Tryd.underlying5 Tryd.underlying9
        have hsame := strB_same d
        clear hnr
        go_wp2_with fail
        go_ret
        exact ⟨rfl, hB7w⟩
end Go.Proofs.YtahbhaphodgomabDoor
