/- Walks: putCount, putText, (tx.In).put. -/
import Derived.Test.YtkdkihacpjhgmaaX4
import Derived.Test.YtkdkihacpjhgmaaAppS
namespace Go.Proofs.Ytkdkihacpjhgmaa
set_option linter.unusedSimpArgs false
set_option linter.unusedVariables false
open Go.RowKit

theorem compB_le (n : Nat) : (M.compB n).length ≤ 9 := by rw [M.compB_len]; have := M.cs_le n; omega
theorem putCount_any (X : Nat) (h1 : (X : Int) ≤ 9223372036854775807) (w : World) (base : Nat) {v : Value} {n : Nat} {xs : List Nat} (hbuf : Buf w base v n (bys xs)) (hn : n ≤ 500000000) (hbase : base ≤ w.heap.size) :
    Calls Try.prog 32 #[v, .int .i64 (X : Int)] w fun e w' => ∃ v', e = .returned v' ∧ Laid w base v w' v' (n + (M.compB X).length) (bys (xs ++ M.compB X)) := by
  have HC := Lib.hid (compact_any (X : Int) (by omega) (by omega) w base hbuf (by omega) hbase)
  have hx : (X : Int) ≤ 18446744073709551615 := by omega
  go_enter Try.func32, Try.ntmps32
  go_wp2_with fail
  refine HC.out.mono ?_
  rintro e w1 ⟨v1, rfl, hl⟩
  rw [Int.toNat_natCast, ← bys_app, ← M.compB_len] at hl
  have HL := Lib.hid hl
  clear hl
  go_wp2
  go_ret
  exact ⟨_, rfl, HL.out⟩

theorem putText_any (s : List Nat) (hs : B8 s) (hl : (s.length : Int) ≤ 100000000) (w : World) (base : Nat) {v : Value} {n : Nat} {xs : List Nat} (hbuf : Buf w base v n (bys xs)) (hn : n ≤ 500000000) (hbase : base ≤ w.heap.size) :
    Calls Try.prog 34 #[v, .string (strB s)] w fun e w' => ∃ v', e = .returned v' ∧ Laid w base v w' v' (n + (txt s).length) (bys (xs ++ txt s)) := by
  obtain ⟨i0, hi, hz0, hz1, hz2⟩ := info_parts Try.info5
  have HC := Lib.hid (putCount_any s.length (by omega) w base hbuf hn hbase)
  have hsz := strB_size s
  have HZ := Lib.hid hl
  go_enter Try.func34, Try.ntmps34
  go_wp2_with fail
  refine HC.out.mono ?_
  rintro e w1 ⟨v1, rfl, hl1⟩
  have hcl := compB_le s.length
  have hbb := Nat.le_trans hbase hl1.grown.size
  have hb1 := hl1.buf
  go_wp2_with (at_builtin; refine wpList_append_bufstr _ rfl (.tmp 8) (.tmp 9) 27 9 rfl base 5 i0 (.int .u8 0) Try.underlying27 Try.underlying9 hi hz0 hz1 hz2 rfl rfl hb1 s hs rfl ?b1 ?b2 hbb ?next)
  case b1 => unfold maxLen; omega
  case b2 => omega
  case next =>
    intro v2 w2 r1 r2 r3
    have hl2 : Laid w1 base v1 w2 v2 _ _ := ⟨r1, r2, r3⟩
    have hl3 := hl1.trans hl2
    rw [← bys_app, List.append_assoc, Nat.add_assoc] at hl3
    have HL : Hid (Laid w base v w2 v2 (n + (txt s).length) (bys (xs ++ txt s))) := Lib.hid (by
      have e : (txt s).length = (M.compB s.length).length + s.length := by unfold txt; rw [List.length_append]
      rw [e]; exact hl3)
    clear hl1 hl2 hl3 r1 r2 r3 hb1
    go_wp2
    go_ret
    exact ⟨_, rfl, HL.out⟩
end Go.Proofs.Ytkdkihacpjhgmaa
