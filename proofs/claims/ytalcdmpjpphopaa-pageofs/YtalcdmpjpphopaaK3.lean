/- Walks: cutKey. -/
import Derived.Test.YtalcdmpjpphopaaK2
import Derived.IntWalk
namespace Go.Proofs.Ytalcdmpjpphopaa
set_option linter.unusedSimpArgs false
set_option linter.unusedVariables false
open Go.RowKit

def cutK (R : Option (List Nat × List Nat)) : List Nat := match R with | some p => p.1 | none => []
def cutT (R : Option (List Nat × List Nat)) : List Nat := match R with | some p => p.2 | none => []
def cut3 (R : Option (List Nat × List Nat)) : Ending := .returned (.tuple #[.string (strB (cutK R)), .string (strB (cutT R)), .bool R.isSome])

theorem drop_cons (s : List Nat) (j : Nat) (h : j < s.length) : s.drop j = s.getD j 0 :: s.drop (j + 1) := by
  rw [List.drop_eq_getElem_cons h]; simp [List.getD, h]
theorem strB_drop (s : List Nat) (j : Nat) : (strB s).extract j (strB s).size = strB (s.drop j) := by
  unfold strB
  rw [ByteArray.size, ByteArray.ext_iff]
  simp [ByteArray.data_extract, List.map_drop]
  exact List.take_of_length_le (by simp)

theorem Below.drewN' {B : Nat} {a w : World} (h : Below B a w) (n : Nat) : Below B a (w.drewN n) := ⟨h.os, h.tape, h.output, h.size, h.block⟩

set_option maxHeartbeats 1000000 in
set_option maxRecDepth 100000 in
theorem cutk_any (s : List Nat) (hs : ∀ c ∈ s, c < 256) (hl : s.length ≤ 1000000) (w : World) :
    Calls Try.prog 36 #[.string (strB s)] w fun e w' => e = cut3 (M.cut [] s) ∧ Below w.heap.size w w' := by
  obtain ⟨i0, hi, hz0, hz1, hz2⟩ := info_parts Try.info5
  have hsz : (strB s).size = s.length := strB_size s
  generalize hn : s.length = n at *
  have HN := Lib.hid hn
  have HK := Lib.hid hs
  clear hn hs
  obtain ⟨R, HR⟩ : ∃ R, Hid (M.cut [] s = R) := ⟨_, Lib.hid rfl⟩
  rw [HR.out]
  go_enter Try.func36, Try.ntmps36
  go_wp2
  go_loopg [5, 6] (n + 1) (fun m b c wr => ∃ j, m = n + 1 - j ∧ j ≤ n ∧ c = .int .i64 j ∧ ∃ L acc, Laid w w.heap.size (.slice none 0 0) wr b L (bys acc) ∧ L ≤ j ∧ Hid (M.cut acc (s.drop j) = R))
  case atStart => exact ⟨0, rfl, Nat.zero_le _, rfl, 0, [], by simpa [bys] using Laid.refl (Buf.nil w _), by omega, Lib.hid (by simpa using HR.out)⟩
  case round =>
    obtain ⟨j, hm, hj, rfl, L, acc, hlaid, hL, HC⟩ := hrel
    have HM := Lib.hid hm
    clear hm
    have hbb := hlaid.below (Buf.nil w _) (Nat.le_refl _)
    have hwr := hbb.size
    by_cases hlt : j < n
    · have hlt' : (j : Int) < (n : Int) := by omega
      have hjs : j < (strB s).size := by rw [hsz]; exact hlt
      have hD := Lib.hid (drop_cons s j (by rw [HN.out]; exact hlt))
      have hcb := getD_lt HK.out j
      have hat := Lib.hid (strB_at s HK.out j hjs)
      obtain ⟨c, EC⟩ : ∃ c, Hid (s.getD j 0 = c) := ⟨_, Lib.hid rfl⟩
      rw [EC.out] at hcb
      have hbyte : ((strB s)[j]'hjs).toNat = c := hat.out.trans EC.out
      by_cases h0 : c = 0
      · subst h0
        by_cases hlt2 : j + 1 < n
        · have hlt2' : (j : Int) + 1 < (n : Int) := by omega
          have hne : ((j : Int) + 1 == (n : Int)) = false := by simp; omega
          have hjs2 : j + 1 < (strB s).size := by rw [hsz]; exact hlt2
          have hD2 := Lib.hid (drop_cons s (j + 1) (by rw [HN.out]; exact hlt2))
          have hcb2 := getD_lt HK.out (j + 1)
          have hat2 := Lib.hid (strB_at s HK.out (j + 1) hjs2)
          obtain ⟨d, ED⟩ : ∃ d, Hid (s.getD (j + 1) 0 = d) := ⟨_, Lib.hid rfl⟩
          rw [ED.out] at hcb2
          have hbyte2 : ((strB s)[j + 1]'hjs2).toNat = d := hat2.out.trans ED.out
          have HC2 : Hid (M.cut acc (0 :: d :: s.drop (j + 1 + 1)) = R) := by
            have := HC.out
            rw [hD.out, hD2.out, EC.out, ED.out] at this
            exact Lib.hid this
          by_cases h1 : d = 1
          · subst h1
            have hj2 : (j : Int) + 1 + 1 ≤ (n : Int) := by omega
            have hj2n : j + 1 + 1 ≤ n := by omega
            obtain ⟨A, cc, rfl, _, hrd⟩ := hlaid.buf.slice
            have hcv : ∀ q, (convert 25 9 (.slice A L cc)).run Try.prog (wr.drewN q) = .ok (.string (strB acc)) (wr.drewN q) := fun q => run_conv (P := Try.prog) cc (hrd.drewN q) 25 9 5 Try.underlying25 Try.underlying5 Try.underlying9
            have hwa : IntKind.i64.wrap ((j : Int) + 1 + 1) = (j : Int) + 1 + 1 := by rw [IntWalk.i64_in _ (by omega)]
            go_upto_region 12 with fail
            go_quiet (fail)
            go_wp2
            go_ret3
            have hR := HC2.out
            rw [M.cut_end] at hR
            have hx : (strB s).extract (j + 1 + 1) n = strB (s.drop (j + 1 + 1)) := by
              have := strB_drop s (j + 1 + 1)
              rwa [hsz] at this
            refine ⟨?_, ?_⟩
            · rw [← hR]
              show Ending.returned (.tuple #[.string (strB acc), .string ((strB s).extract (j + 1 + 1) n), .bool true]) = _
              rw [hx]; rfl
            · exact Below.drewN' hbb _
          · have h1' : ((d : Int) == 1) = false := by simp; omega
            by_cases h2 : d = 255
            · subst h2
              go_wp2_with (at_builtin; refine wpList_append_one _ rfl (.tmp 42) (.tmp 43) 25 rfl w.heap.size 5 i0 (.int .u8 0) 1 Try.underlying25 hi hz0 hz1 hz2 rfl rfl hlaid.buf rfl rfl ?b3 ?b4 hwr ?next2)
              case b3 => unfold maxLen; omega
              case b4 => omega
              case next2 =>
                intro v2 w2 r1 r2 r3
                have hl3 := hlaid.trans ⟨r1, r2, r3⟩
                clear r1 r2 r3
                go_wp2
                go_roundg (n + 1 - (j + 2))
                case measure => have := HM.out; omega
                case rel =>
                  refine ⟨j + 2, rfl, by omega, by go_num, L + 1, acc ++ [0], ?_, by omega, ?_⟩
                  · rw [bys_app]; exact hl3
                  · have := HC2.out
                    rw [M.cut_zero] at this
                    exact Lib.hid this
            · have h2' : ((d : Int) == 255) = false := by simp; omega
              have hR := HC2.out
              rw [M.cut_bad _ _ _ h1 h2] at hR
              subst hR
              go_wp2
              go_ret3
              exact ⟨rfl, hbb⟩
        · have hle : ((j : Int) + 1 == (n : Int)) = true := by simp; omega
          have hR := HC.out
          rw [hD.out, EC.out, List.drop_of_length_le (by rw [HN.out]; omega), M.cut_one] at hR
          subst hR
          go_wp2
          go_ret3
          exact ⟨rfl, hbb⟩
      · have h0' : ((c : Int) == 0) = false := by simpa using h0
        have h0'' : ((c : Int) != 0) = true := by simpa using h0
        go_wp2_with (at_builtin; refine wpList_append_one _ rfl (.tmp 17) (.tmp 21) 25 rfl w.heap.size 5 i0 (.int .u8 0) 1 Try.underlying25 hi hz0 hz1 hz2 rfl rfl hlaid.buf rfl rfl ?b1 ?b2 hwr ?next)
        case b1 => unfold maxLen; omega
        case b2 => omega
        case next =>
          intro v' w' r1 r2 r3
          have hl2 := hlaid.trans ⟨r1, r2, r3⟩
          clear r1 r2 r3
          go_wp2
          go_roundg (n + 1 - (j + 1))
          case measure => have := HM.out; omega
          case rel =>
            refine ⟨j + 1, rfl, by omega, by go_num, L + 1, acc ++ [c], ?_, by omega, ?_⟩
            · rw [bys_app]; exact hl2
            · have := HC.out
              rw [hD.out, EC.out, M.cut_pos _ _ _ h0] at this
              exact Lib.hid this
    · obtain rfl : n = j := by omega
      have hlt' : decide ((n : Int) < (n : Int)) = false := by simp
      have hR := HC.out
      rw [List.drop_of_length_le (by rw [HN.out]; exact Nat.le_refl _), M.cut_nil] at hR
      subst hR
      go_wp2
      go_ret3
      exact ⟨rfl, hbb⟩
end Go.Proofs.Ytalcdmpjpphopaa
