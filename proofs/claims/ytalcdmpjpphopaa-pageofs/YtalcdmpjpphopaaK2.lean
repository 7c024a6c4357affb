/- Walks: Entry.Inner. -/
import Derived.Test.YtalcdmpjpphopaaK1
import Derived.Test.YtalcdmpjpphopaaKM
import Derived.Test.YtalcdmpjpphopaaNW5
import Derived.Test.YtalcdmpjpphopaaApp
import Derived.Deep.LoopGhost
namespace Go.Proofs.Ytalcdmpjpphopaa
set_option linter.unusedSimpArgs false
set_option linter.unusedVariables false
open Go.RowKit

theorem boxed (w : World) (a b c d : Value) (t : Nat) :
    (w.alloc (.cells #[a, b, c, d] t)).cell? ⟨w.heap.size, 0, none⟩ = some a ∧ (w.alloc (.cells #[a, b, c, d] t)).cell? ⟨w.heap.size, 1, none⟩ = some b ∧
    (w.alloc (.cells #[a, b, c, d] t)).cell? ⟨w.heap.size, 2, none⟩ = some c ∧ (w.alloc (.cells #[a, b, c, d] t)).cell? ⟨w.heap.size, 3, none⟩ = some d := by
  refine ⟨?_, ?_, ?_, ?_⟩ <;> (rw [World.cell?_alloc_mark]; rfl)

theorem inner_bys (k : List Nat) (S : Nat) (d : Bool) : bys (M.esc k) ++ #[Value.int .u8 0, .int .u8 1].toList ++ bys (M.beB (M.turned (M.num2 S d)) 8) = bys (M.inner k S d) := by
  simp [M.inner, bys]

set_option maxHeartbeats 1000000 in
set_option maxRecDepth 100000 in
theorem inner_any (k : List Nat) (hk : ∀ c ∈ k, c < 256) (hl : k.length ≤ 1000000) (S : Nat) (hS : (S : Int) ≤ 72057594037927935) (d : Bool) (v : ByteArray) (w : World) :
    Calls Try.prog 35 #[ent (strB k) S d v] w fun e w' => e = .returned (.string (strB (M.inner k S d))) ∧ Below w.heap.size w w' := by
  obtain ⟨i0, hi, hz0, hz1, hz2⟩ := info_parts Try.info5
  have hsz : (strB k).size = k.length := strB_size k
  generalize hn : k.length = n at *
  have HN := Lib.hid hn
  have HK := Lib.hid hk
  clear hn hk
  unfold ent
  have hbox := boxed w (.string (strB k)) (.int .u64 (S : Int)) (.bool d) (.string v) 45
  have hB1 : Below w.heap.size w (w.alloc (.cells #[.string (strB k), .int .u64 (S : Int), .bool d, .string v] 45)) := (Below.refl _ _).alloc (Nat.le_refl _) _
  have hs1 : (w.alloc (.cells #[.string (strB k), .int .u64 (S : Int), .bool d, .string v] 45)).heap.size = w.heap.size + 1 := by simp
  go_enter Try.func35, Try.ntmps35
  go_wp2
  generalize hW1 : w.alloc (.cells #[.string (strB k), .int .u64 (S : Int), .bool d, .string v] 45) = W1 at *
  clear hW1
  have HBOX := Lib.hid hbox
  have HS1 := Lib.hid hs1
  clear hbox hs1
  go_loopg [3, 9] n (fun m b c wr => ∃ j, m = n - j ∧ j ≤ n ∧ c = .int .i64 j ∧ ∃ L, Laid W1 (w.heap.size + 1) (.slice none 0 0) wr b L (bys (M.esc (k.take j))) ∧ L ≤ 2 * j)
  case atStart => exact ⟨0, rfl, Nat.zero_le _, rfl, 0, by simpa [M.esc, bys] using Laid.refl (Buf.nil W1 _), by omega⟩
  case round =>
    obtain ⟨j, hm, hj, rfl, L, hlaid, hL⟩ := hrel
    have HM := Lib.hid hm
    clear hm
    have hbb := hlaid.below (Buf.nil W1 _) (by rw [HS1.out]; exact Nat.le_refl _)
    have c0 := (hbb.cell (p := ⟨w.heap.size, 0, none⟩) (by simp)).trans HBOX.out.1
    have hwr : w.heap.size + 1 ≤ wr.heap.size := by have := hbb.size; have := HS1.out; omega
    by_cases hlt : j < n
    · have hlt' : (j : Int) < (n : Int) := by omega
      have hjs : j < (strB k).size := by rw [hsz]; exact hlt
      have hE := Lib.hid (M.esc_take k j (by rw [HN.out]; exact hlt))
      have hcb := getD_lt HK.out j
      have hat := Lib.hid (strB_at k HK.out j hjs)
      obtain ⟨c, EC⟩ : ∃ c, Hid (k.getD j 0 = c) := ⟨_, Lib.hid rfl⟩
      rw [EC.out] at hcb
      have hbyte : ((strB k)[j]'hjs).toNat = c := hat.out.trans EC.out
      by_cases h0 : c = 0
      · subst h0
        go_wp2_with (at_builtin; refine wpList_append_one _ rfl (.tmp 12) (.tmp 17) 25 rfl (w.heap.size + 1) 5 i0 (.int .u8 0) 1 Try.underlying25 hi hz0 hz1 hz2 rfl rfl hlaid.buf rfl rfl ?b1 ?b2 hwr ?next)
        case b1 => unfold maxLen; omega
        case b2 => omega
        case next =>
          intro v' w' r1 r2 r3
          have hl2 := hlaid.trans ⟨r1, r2, r3⟩
          clear r1 r2 r3
          have hbb2 := hl2.below (Buf.nil W1 _) (by rw [HS1.out]; exact Nat.le_refl _)
          have c02 := (hbb2.cell (p := ⟨w.heap.size, 0, none⟩) (by simp)).trans HBOX.out.1
          have hwr2 : w.heap.size + 1 ≤ w'.heap.size := by have := hbb2.size; have := HS1.out; omega
          go_wp2_with (at_builtin; refine wpList_append_one _ rfl (.tmp 24) (.tmp 25) 25 rfl (w.heap.size + 1) 5 i0 (.int .u8 0) 1 Try.underlying25 hi hz0 hz1 hz2 rfl rfl hl2.buf rfl rfl ?b3 ?b4 hwr2 ?next2)
          case b3 => unfold maxLen; omega
          case b4 => omega
          case next2 =>
            intro v2 w2 r1 r2 r3
            have hl3 := hl2.trans ⟨r1, r2, r3⟩
            clear r1 r2 r3
            go_wp2
            go_roundg (n - (j + 1))
            case measure => have := HM.out; omega
            case rel =>
              refine ⟨j + 1, rfl, by omega, by go_num, L + 1 + 1, ?_, by omega⟩
              rw [hE.out, EC.out, if_pos rfl, bys_app]
              first | exact hl3 | (rw [List.append_assoc] at hl3; exact hl3)
      · have h0' : ((c : Int) == 0) = false := by simpa using h0
        go_wp2_with (at_builtin; refine wpList_append_one _ rfl (.tmp 12) (.tmp 17) 25 rfl (w.heap.size + 1) 5 i0 (.int .u8 0) 1 Try.underlying25 hi hz0 hz1 hz2 rfl rfl hlaid.buf rfl rfl ?b5 ?b6 hwr ?next3)
        case b5 => unfold maxLen; omega
        case b6 => omega
        case next3 =>
          intro v' w' r1 r2 r3
          have hl2 := hlaid.trans ⟨r1, r2, r3⟩
          clear r1 r2 r3
          have hbb2 := hl2.below (Buf.nil W1 _) (by rw [HS1.out]; exact Nat.le_refl _)
          have c02 := (hbb2.cell (p := ⟨w.heap.size, 0, none⟩) (by simp)).trans HBOX.out.1
          go_wp2
          go_roundg (n - (j + 1))
          case measure => have := HM.out; omega
          case rel =>
            refine ⟨j + 1, rfl, by omega, by go_num, L + 1, ?_, by omega⟩
            rw [hE.out, EC.out, if_neg h0, bys_app]
            exact hl2
    · obtain rfl : n = j := by omega
      have hfull := Lib.hid (show k.take n = k from List.take_of_length_le (by rw [HN.out]; exact Nat.le_refl _))
      rw [hfull.out] at hlaid
      have hlt' : decide ((n : Int) < (n : Int)) = false := by simp
      have hEm : (.cells #[.int .u8 0, .int .u8 1] 5 : Obj) = .cells #[.int .u8 0, .int .u8 1] 5 := rfl
      go_wp2_with (at_builtin; refine wpList_append_lit rfl (.tmp 28) (.tmp 29) 25 rfl (w.heap.size + 1) 5 i0 (.int .u8 0) 1 Try.underlying25 hi hz0 hz1 hz2 rfl rfl hlaid.buf (C := #[.int .u8 0, .int .u8 1]) (m := 2) rfl rfl (by simp [Value.oneCell']) ?b7 ?b8 hwr ?next4)
      case b7 => unfold maxLen; omega
      case b8 => omega
      case next4 =>
        intro v' w' r1 r2 r3
        have hl2 := hlaid.trans ⟨r1, r2, r3⟩
        clear r1 r2 r3
        have hbb2 := hl2.below (Buf.nil W1 _) (by rw [HS1.out]; exact Nat.le_refl _)
        have c12 := (hbb2.cell (p := ⟨w.heap.size, 1, none⟩) (by simp)).trans HBOX.out.2.1
        have c22 := (hbb2.cell (p := ⟨w.heap.size, 2, none⟩) (by simp)).trans HBOX.out.2.2.1
        have hwr2 : w.heap.size + 1 ≤ w'.heap.size := by have := hbb2.size; have := HS1.out; omega
        have ht1 : bits BinOp.xor IntKind.u64 IntKind.u64.max (2 * (S : Int)) = ((M.turned (M.num2 S true) : Nat) : Int) := by
          have := not_u64 (2 * S) (by omega)
          simpa [M.turned, M.num2] using this
        have ht2 : bits BinOp.xor IntKind.u64 IntKind.u64.max (2 * (S : Int) + 1) = ((M.turned (M.num2 S false) : Nat) : Int) := by
          have := not_u64 (2 * S + 1) (by omega)
          simpa [M.turned, M.num2] using this
        have HT1 := Lib.hid ht1
        have HT2 := Lib.hid ht2
        clear ht1 ht2
        cases d
        · go_wp2_with fail
          rw [HT2.out]
          refine (putBig_any _ (by omega) (by unfold M.turned; omega) 8 w' (w.heap.size + 1) hl2.buf (by omega) hwr2).mono ?_
          rintro e w2 ⟨v2, rfl, hl3⟩
          have hl4 := hl2.trans hl3
          rw [Int.toNat_natCast, show kk 8 = 8 from by decide] at hl4
          have hbb3 := hl4.below (Buf.nil W1 _) (by rw [HS1.out]; exact Nat.le_refl _)
          have hbel := hB1.trans (hbb3.mono (by omega))
          obtain ⟨A, c, rfl, _, hr⟩ := hl4.buf.slice
          have hr' : Rd w2 w2.heap.size A (L + 2 + 8) (bys (M.inner k S false)) := by
            have q := inner_bys k S
            simp only [List.append_assoc] at q hr
            rw [← q false]; exact hr
          have hcv := run_conv (P := Try.prog) c hr' 25 9 5 Try.underlying25 Try.underlying5 Try.underlying9
          go_wp2_with fail
          go_ret
          exact ⟨rfl, hbel⟩
        · go_wp2_with fail
          rw [HT1.out]
          refine (putBig_any _ (by omega) (by unfold M.turned; omega) 8 w' (w.heap.size + 1) hl2.buf (by omega) hwr2).mono ?_
          rintro e w2 ⟨v2, rfl, hl3⟩
          have hl4 := hl2.trans hl3
          rw [Int.toNat_natCast, show kk 8 = 8 from by decide] at hl4
          have hbb3 := hl4.below (Buf.nil W1 _) (by rw [HS1.out]; exact Nat.le_refl _)
          have hbel := hB1.trans (hbb3.mono (by omega))
          obtain ⟨A, c, rfl, _, hr⟩ := hl4.buf.slice
          have hr' : Rd w2 w2.heap.size A (L + 2 + 8) (bys (M.inner k S true)) := by
            have q := inner_bys k S
            simp only [List.append_assoc] at q hr
            rw [← q true]; exact hr
          have hcv := run_conv (P := Try.prog) c hr' 25 9 5 Try.underlying25 Try.underlying5 Try.underlying9
          go_wp2_with fail
          go_ret
          exact ⟨rfl, hbel⟩
end Go.Proofs.Ytalcdmpjpphopaa
