/- RecordNexts where there is nothing to read, and where there is more than is looked at. -/
import Derived.Test.YtahbhaphodgomabDoorNxtW
namespace Go.Proofs.YtahbhaphodgomabDoor
set_option linter.unusedSimpArgs false
set_option linter.unusedVariables false
open Go.RowKit

set_option maxHeartbeats 1000000 in
theorem nexts_early (A : Option Addr) (n c : Nat) (w : World) (ht : TabAt w) (h : (400 : Int) < (n : Int)) :
    Calls Tryd.prog 4 #[.slice A n c] w fun e w' => e = .returned (.bool true) ∧ Below w.heap.size w w' := by
  have HT := Lib.hid ht
  clear ht
  go_enter Tryd.func4, Tryd.ntmps4
  go_wp2_with fail
  refine (head_any _ HT.out).mono ?_
  rintro e w1 ⟨rfl, hb1⟩
  go_wp2_with fail
  go_ret
  exact ⟨rfl, hb1⟩

set_option maxHeartbeats 1000000 in
set_option maxRecDepth 100000 in
theorem nexts_zero (A : Option Addr) (c : Nat) (w : World) (ht : TabAt w) :
    Calls Tryd.prog 4 #[.slice A 0 c] w fun e w' => e = .returned (.bool true) ∧ Below w.heap.size w w' := by
  obtain ⟨i0, hi, hz0, hz1, hz2⟩ := info_parts Tryd.info5
  have HT := Lib.hid ht
  clear ht
  go_enter Tryd.func4, Tryd.ntmps4
  go_wp2_with fail
  refine (head_any _ HT.out).mono ?_
  rintro e w1 ⟨rfl, hw1⟩
  have hs1 := hw1.size
  have hb0 := Buf.new w1 w1.heap.size 5 #[] (0, 0) (Nat.le_refl _) (by unfold maxLen; simp)
  have hba : Below w1.heap.size w1 (w1.alloc (.cells #[] 5)) := (Below.refl _ _).alloc (Nat.le_refl _) _
  have hr1 : Rd (w1.alloc (.cells #[] 5)) w1.heap.size A 0 (bys []) := Rd.nil
  go_wp2_with (at_builtin; refine wpList_append_buf _ rfl (.tmp 15) (.tmp 16) 22 rfl w1.heap.size 5 i0 (.int .u8 0) 1 Tryd.underlying22 hi hz0 hz1 hz2 rfl rfl hb0 rfl hr1 (bys_one _) ?b1 ?b2 (by simp) ?next)
  case b1 => unfold maxLen; first | omega | simp
  case b2 => first | omega | simp
  case next =>
    intro v2 w2 r1 r2 r3
    have u2 : Buf w2 w1.heap.size v2 0 (bys []) := by simpa using r1
    have hB2 : Below w1.heap.size w1 w2 := hba.grown r2 (by simp) (fun k hk => by simp [Value.ownBlock] at hk; omega)
    have hB2w := hw1.trans (hB2.mono hs1)
    obtain ⟨A2, c2, rfl, hc2, hcm2, hr2⟩ := u2.rd
    have HNX := Lib.hid (next_any A2 0 c2 [] w2 hr2 (by simp) (by omega) hc2 hcm2 (HT.out.below hB2w HT.out.1))
    have hE : nE [] = 8 := by decide
    obtain ⟨e1, e2⟩ := next_bad [] (by rw [hE]; decide)
    go_wp2_with fail
    refine HNX.out.mono ?_
    rintro e w3 ⟨v3, rfl, hl3⟩
    have hb3 := hl3.below (Buf.nil w2 _) (Nat.le_refl _)
    have hdat := hl3.buf
    obtain ⟨A3, c3, ev, hc3, _⟩ := hdat.slice
    subst ev
    have hB3w := hB2w.trans (hb3.mono hB2w.size)
    rw [e1, e2, hE]
    clear hl3 hb3 HNX hdat r1 r2 r3 hb0 hba hr1 u2 hr2 hB2 hB2w hE e1 e2
    go_wp2_with fail
    go_loopg [26] 0 (fun k i wr => i = .int .i64 0 ∧ Below w.heap.size w wr)
    case atStart => exact ⟨rfl, hB3w⟩
    case round =>
      obtain ⟨rfl, hbw⟩ := hrel
      go_wp2_with fail
      go_ret
      exact ⟨rfl, hbw⟩
end Go.Proofs.YtahbhaphodgomabDoor
