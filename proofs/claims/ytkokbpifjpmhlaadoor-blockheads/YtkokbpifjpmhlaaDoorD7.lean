/- Walks: lastChunks. -/
import Derived.Test.YtkokbpifjpmhlaaDoorD6
import Derived.Laws.MakeOwn
namespace Go.Proofs.YtkokbpifjpmhlaaDoor
set_option linter.unusedSimpArgs false
set_option linter.unusedVariables false
open Go.RowKit

/-- How many noughts. -/
def zc (n : Nat) : Nat := (119 - n % 64) % 64
def be8 (X : Nat) : Nat → List Nat
  | 0 => []
  | i + 1 => be8 X i ++ [X / 2 ^ (8 * (7 - i)) % 256]
def tl (bs : List Nat) : List Nat := 128 :: List.replicate (zc bs.length) 0 ++ be8 (8 * bs.length) 8
def lst (bs : List Nat) : List Nat := bs.drop (bs.length - bs.length % 64) ++ tl bs
theorem zc_ne (n j : Nat) (h : j < zc n) : (n % 64 + 1 + j) % 64 ≠ 56 := by unfold zc at h; omega
theorem zc_eq (n : Nat) : (n % 64 + 1 + zc n) % 64 = 56 := by unfold zc; omega
theorem zc_lt (n : Nat) : zc n < 64 := by unfold zc; omega
theorem be8_len (X i : Nat) : (be8 X i).length = i := by
  induction i with
  | zero => rfl
  | succ i ih => simp [be8, ih]
theorem be8_lt (X i : Nat) : ∀ c ∈ be8 X i, c < 256 := by
  induction i with
  | zero => simp [be8]
  | succ i ih =>
    intro c hc
    simp [be8] at hc
    rcases hc with hc | rfl
    · exact ih c hc
    · omega
theorem lst_lt (bs : List Nat) (hb : ∀ c ∈ bs, c < 256) : ∀ c ∈ lst bs, c < 256 := by
  intro c hc
  simp [lst, tl] at hc
  rcases hc with hc | rfl | ⟨_, rfl⟩ | hc
  · exact hb c (List.mem_of_mem_drop hc)
  · omega
  · omega
  · exact be8_lt _ _ c hc
theorem lst_len (bs : List Nat) : (lst bs).length = bs.length % 64 + 1 + zc bs.length + 8 := by
  simp [lst, tl, be8_len]; omega

theorem make128 {i0 : TypeInfo} (hi : Tryd.prog.info? 5 = some i0) (hz0 : i0.zero = some (.int .u8 0)) (hz1 : i0.size = 1) (hz2 : i0.bytes = 1) (cap : Nat) (hc : cap ≤ 1000) (capI : Int) (hcI : capI = (cap : Int)) :
    ∃ MC : Array Value, MC.size = cap ∧ ∀ w, (Instr.makeSlice 27 (.int .i64 0) (.int .i64 capI)).run Tryd.prog w = .ok (.slice (some ⟨w.heap.size, 0, none⟩) 0 cap) (w.alloc (.cells MC 5)) := by
  subst hcI
  refine ⟨madeCells (Value.int .u8 0).cells (cap * 1), by simpa using size_madeCells _ _, fun w => ?_⟩
  have := run_makeSlice (P := Tryd.prog) w 27 5 i0 (.int .u8 0) Tryd.underlying27 hi hz0 .i64 .i64 0 (cap : Int) (by decide) (by omega) (by rw [hz1]; omega) (by rw [hz2]; omega) (by omega)
  rw [hz1] at this
  simpa using this

set_option maxHeartbeats 1000000 in
set_option maxRecDepth 100000 in
theorem last_any (A : Option Addr) (n c : Nat) (bs : List Nat) (w : World) (hr : Rd w w.heap.size A n (bys bs)) (hn : (n : Int) ≤ 1000000000) (hc : n ≤ c) :
    Calls Tryd.prog 28 #[.slice A n c] w fun e w' => ∃ A' n' c', e = .returned (.slice A' n' c') ∧ n' = (lst bs).length ∧ n' ≤ c' ∧ c' ≤ maxLen ∧ Rd w' w'.heap.size A' n' (bys (lst bs)) ∧ Below w.heap.size w w' := by
  obtain ⟨i0, hi5, hz0, hz1, hz2⟩ := info_parts Tryd.info5
  obtain ⟨MC, hMC, hmk⟩ := make128 hi5 hz0 hz1 hz2 128 (by omega) 128 rfl
  have hlen : bs.length = n := by have := hr.1; rwa [bys_len] at this
  have HLEN := Lib.hid hlen
  have HMC := Lib.hid hMC
  clear hMC hlen
  have hsl := fun wx => run_slice_l (P := Tryd.prog) wx 27 5 i0 Tryd.underlying27 hi5 hz1 A n c (n - n % 64) (by omega) .i64 ((n : Int) - (n : Int) % 64) (by omega)
  have hrd := hr.drop (n - n % 64) c (by omega) hc
  generalize (if c = n - n % 64 then A else A.map (·.add (n - n % 64))) = A2 at *
  have e64 : n - (n - n % 64) = n % 64 := by omega
  rw [e64] at hsl hrd
  rw [← bys_drop] at hrd
  have HRD := Lib.hid hrd
  clear hrd e64
  have hown : Buf (w.alloc (.cells MC 5)) w.heap.size (.slice (some ⟨w.heap.size, 0, none⟩) 0 128) 0 [] :=
    Buf.of_own (World.ownsRow_made w (base := w.heap.size) (e := 5) (size := 1) MC 128 (Nat.le_refl _) (by unfold maxLen; omega) (by rw [HMC.out]))
  have hb0 : Below w.heap.size w (w.alloc (.cells MC 5)) := (Below.refl _ _).alloc (Nat.le_refl _) _
  have hrd1 := HRD.out.below hb0
  have hn0 : (0 : Int) ≤ (n : Int) - (n : Int) % 64 := by omega
  have hm64 : n % 64 < 64 := by omega
  go_enter Tryd.func28, Tryd.ntmps28
  go_wp2_with (at_builtin; refine wpList_append_buf _ rfl (.tmp 7) (.tmp 15) 27 rfl w.heap.size 5 i0 (.int .u8 0) 1 Tryd.underlying27 hi5 hz0 hz1 hz2 rfl rfl hown rfl hrd1 (bys_one _) ?b1 ?b2 (by simp) ?next)
  case b1 => unfold maxLen; omega
  case b2 => omega
  case next =>
    intro v1 w1 r1 r2 r3
    have hb1 : Below w.heap.size w w1 := hb0.trans ((Below.refl _ _).grown r2 (by simp) fun k hk => (hown.lt k hk).1)
    have hs1 := hb1.size
    have r1' : Buf w1 w.heap.size v1 (n % 64) (bys (bs.drop (n - n % 64))) := by simpa using r1
    clear r1 r2 r3 hown hsl hmk hrd1
    go_wp2_with (at_builtin; refine wpList_append_one _ rfl (.tmp 17) (.tmp 18) 27 rfl w.heap.size 5 i0 (.int .u8 0) 1 Tryd.underlying27 hi5 hz0 hz1 hz2 rfl rfl r1' rfl rfl ?b3 ?b4 hs1 ?next2)
    case b3 => unfold maxLen; omega
    case b4 => omega
    case next2 =>
      intro v2 w2 r1 r2 r3
      have hl2 : Laid w1 w.heap.size v1 w2 v2 (n % 64 + 1) _ := ⟨r1, r2, r3⟩
      have hb2 : Below w.heap.size w w2 := hb1.trans (hl2.below r1' hs1)
      have hbf2 : Buf w2 w.heap.size v2 (n % 64 + 1 + 0) (bys (bs.drop (n - n % 64) ++ 128 :: List.replicate 0 0)) := by
        have := hl2.buf
        rw [bys_app]; exact this
      clear r1 r2 r3 hl2 r1' hb1 hs1
      go_wp2_with fail
      go_loopg [3] (zc n) (fun k v wr => ∃ j, k = zc n - j ∧ j ≤ zc n ∧ Below w.heap.size w wr ∧ Buf wr w.heap.size v (n % 64 + 1 + j) (bys (bs.drop (n - n % 64) ++ 128 :: List.replicate j 0)))
      case atStart => exact ⟨0, rfl, Nat.zero_le _, hb2, hbf2⟩
      case round =>
        clear hb2 hbf2
        obtain ⟨j, hk, hj, hbw, hbuf⟩ := hrel
        have hM := Lib.hid hk
        clear hk
        have hws := hbw.size
        obtain ⟨A3, c3, rfl, hc3, hrd3⟩ := hbuf.slice
        have hz := zc_lt n
        by_cases hlt : j < zc n
        · have hne := zc_ne n j hlt
          have hne' : (((n % 64 + 1 + j : Nat) : Int) % 64 != 56) = true := by rw [bne_iff_ne]; omega
          go_wp2_with (at_builtin; refine wpList_append_one _ rfl (.tmp 24) (.tmp 25) 27 rfl w.heap.size 5 i0 (.int .u8 0) 1 Tryd.underlying27 hi5 hz0 hz1 hz2 rfl rfl hbuf rfl rfl ?b5 ?b6 hws ?next3)
          case b5 => unfold maxLen; omega
          case b6 => omega
          case next3 =>
            intro v4 w4 r1 r2 r3
            have hl4 : Laid wr w.heap.size _ w4 v4 (n % 64 + 1 + j + 1) _ := ⟨r1, r2, r3⟩
            have hb4 := hbw.trans (hl4.below hbuf hws)
            have hbf4 := hl4.buf
            clear r1 r2 r3 hl4
            go_wp2_with fail
            go_roundg (zc n - (j + 1))
            case measure => have := hM.out; omega
            case rel =>
              refine ⟨j + 1, rfl, by omega, hb4, ?_⟩
              rw [List.replicate_succ', ← List.cons_append, ← List.append_assoc, bys_app]
              exact hbf4
        · obtain rfl : j = zc n := by omega
          have heq := zc_eq n
          have hne' : (((n : Int) % 64 + 1 + ((zc n : Nat) : Int)) % 64 != 56) = false := by rw [bne_eq_false_iff_eq]; omega
          go_wp2_with fail
          have hTL : (bs.drop (n - n % 64) ++ 128 :: List.replicate (zc n) 0).length = n % 64 + 1 + zc n := by have := hbuf.1; rwa [bys_len] at this
          have HFIN := Lib.hid (show (bs.drop (n - n % 64) ++ 128 :: List.replicate (zc n) 0) ++ be8 (8 * n) 8 = lst bs by
            unfold lst tl; rw [HLEN.out]; simp)
          clear hrd3 hne'
          generalize hm : n % 64 + 1 + zc n = m at *
          have hmb : m ≤ 200 := by omega
          generalize (bs.drop (n - n % 64) ++ 128 :: List.replicate (zc n) 0) = TT at *
          have HTL := Lib.hid hTL
          clear hTL hm heq hlt hj
          go_loopg [3, 31] 8 (fun k v i wr => ∃ j, k = 8 - j ∧ j ≤ 8 ∧ i = .int .i64 j ∧ Below w.heap.size w wr ∧ Buf wr w.heap.size v (m + j) (bys (TT ++ be8 (8 * n) j)))
          case atStart => exact ⟨0, rfl, Nat.zero_le _, rfl, hbw, by simpa [be8] using hbuf⟩
          case round =>
            clear hbw hbuf hws
            obtain ⟨j, hk, hj, rfl, hbw, hbuf⟩ := hrel
            have hM3 := Lib.hid hk
            clear hk
            have hws := hbw.size
            by_cases hlj : j < 8
            · have hlj' : (j : Int) < 8 := by omega
              have b1 : (0 : Int) ≤ 8 * (7 - (j : Int)) := by omega
              have b2 : 8 * (7 - (j : Int)) ≤ 64 := by omega
              have b6 : (8 * (7 - (j : Int))).toNat = 8 * (7 - j) := by omega
              go_wp2_with (at_builtin; refine wpList_append_one _ rfl (.tmp 34) (.tmp 41) 27 rfl w.heap.size 5 i0 (.int .u8 0) 1 Tryd.underlying27 hi5 hz0 hz1 hz2 rfl rfl hbuf rfl rfl ?b7 ?b8 hws ?next4)
              case b7 => unfold maxLen; omega
              case b8 => omega
              case next4 =>
                intro v4 w4 r1 r2 r3
                have hl4 : Laid wr w.heap.size _ w4 v4 (m + j + 1) _ := ⟨r1, r2, r3⟩
                have hb4 := hbw.trans (hl4.below hbuf hws)
                have hbf4 := hl4.buf
                clear r1 r2 r3 hl4
                go_wp2_with fail
                go_roundg (8 - (j + 1))
                case measure => have := hM3.out; omega
                case rel =>
                  refine ⟨j + 1, rfl, by omega, by go_num, hb4, ?_⟩
                  have e : (((8 * n / 2 ^ (8 * (7 - j)) % 256 : Nat)) : Int) = 8 * (n : Int) / 2 ^ (8 * (7 - j)) % 256 := by simp
                  unfold be8
                  rw [← List.append_assoc, bys_app]
                  unfold bys
                  rw [List.map_cons, List.map_nil, e]
                  exact hbf4
            · obtain rfl : j = 8 := by omega
              have hdec : decide (((8 : Nat) : Int) < 8) = false := by decide
              have hcm := hbuf
              obtain ⟨A5, c5, rfl, hc5, hrd5⟩ := hbuf.slice
              rw [HFIN.out] at hrd5 hcm
              have hfl : m + 8 = (lst bs).length := by have := hcm.1; rw [bys_len] at this; exact this.symm
              have hcmx : c5 ≤ maxLen := hcm.cap_le
              have HX := Lib.hid (show m + 8 = (lst bs).length ∧ m + 8 ≤ c5 ∧ c5 ≤ maxLen ∧ Rd wr wr.heap.size A5 (m + 8) (bys (lst bs)) from ⟨hfl, hc5, hcmx, hrd5⟩)
              clear hfl hcmx hrd5 hcm hc5
              go_wp2_with fail
              go_ret
              obtain ⟨x1, x2, x3, x4⟩ := HX.out
              exact ⟨A5, m + 8, c5, rfl, x1, x2, x3, x4, hbw⟩
end Go.Proofs.YtkokbpifjpmhlaaDoor
