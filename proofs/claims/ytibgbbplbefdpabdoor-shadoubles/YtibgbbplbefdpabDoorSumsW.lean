/- The walks of ShaSums and ShaEdges. -/
import Derived.Test.YtibgbbplbefdpabDoorR6
namespace Go.Proofs.YtibgbbplbefdpabDoor
set_option linter.unusedSimpArgs false
set_option linter.unusedVariables false
open Go.RowKit

theorem ref_any (A : Option Addr) (n c : Nat) (bs : List Nat) (w : World) (hr : Rd w w.heap.size A n (bys bs)) (hb : ∀ c ∈ bs, c < 256) (hn : (n : Int) ≤ 100000000) :
    Calls Tryd.prog 9 #[.agg (us TAB).toArray, .slice A n c] w fun e w' => e = .returned (.agg (bys (dg bs)).toArray) ∧ Below w.heap.size w w' :=
  refsum_any A n c bs S0 K0 w hr hb hn rfl rfl S0_w K0_w
theorem Tryd.cells5 : Tryd.prog.cellsOf 5 = 1 := by kernel_rfl
theorem Tryd.cells25 : Tryd.prog.cellsOf 25 = 32 := by kernel_rfl
theorem Tryd.eqg25 : Tryd.prog.eqGuardType Tryd.prog.depth 25 = false := by kernel_rfl
theorem dg_eql {i0 : TypeInfo} (hi : Tryd.prog.info? 5 = some i0) (D : List Nat) (h : D.length = 32) (w : World) :
    (Op.equalIn 10000 25 (.agg (bys D).toArray) (.agg (bys D).toArray)).run Tryd.prog w = .ok true w := by
  have := run_eql_bys (P := Tryd.prog) w 25 5 32 .u8 i0 Tryd.underlying25 hi Tryd.cells5 Tryd.underlying5 D D h h
  simpa using this

set_option maxHeartbeats 1000000 in
set_option maxRecDepth 100000 in
theorem sums_long (A : Option Addr) (n c : Nat) (w : World) (ht : TabAt w) (h : (1000 : Int) < n) :
    Calls Tryd.prog 3 #[.slice A n c] w fun e w' => e = .returned (.bool true) ∧ Below w.heap.size w w' := by
  have HT := Lib.hid ht
  clear ht
  go_enter Tryd.func3, Tryd.ntmps3
  go_wp2_with fail
  refine (head_any _ HT.out).mono ?_
  rintro e w1 ⟨rfl, hb1⟩
  go_wp2_with fail
  go_ret
  exact ⟨rfl, hb1⟩

set_option maxHeartbeats 1000000 in
set_option maxRecDepth 100000 in
theorem sums_walk (A : Option Addr) (n c : Nat) (bs : List Nat) (w : World) (hr : Rd w w.heap.size A n (bys bs)) (hb : ∀ c ∈ bs, c < 256) (ht : TabAt w) (h : (n : Int) ≤ 1000) :
    Calls Tryd.prog 3 #[.slice A n c] w fun e w' => e = .returned (.bool true) ∧ Below w.heap.size w w' := by
  obtain ⟨i5, hi5, hz0, hz1, hz2⟩ := info_parts Tryd.info5
  have HT := Lib.hid ht
  have HB := Lib.hid hb
  clear ht hb
  have hd : decide ((1000 : Int) < (n : Int)) = false := by simp; omega
  go_enter Tryd.func3, Tryd.ntmps3
  go_wp2_with fail
  refine (head_any _ HT.out).mono ?_
  rintro e w1 ⟨rfl, hb1⟩
  have h1s := hb1.size
  have hbf0 : Buf (w1.alloc (.cells #[] 5)) w1.heap.size (.slice (some ⟨w1.heap.size, 0, none⟩) 0 0) 0 [] := Buf.new w1 w1.heap.size 5 #[] (0, 0) (Nat.le_refl _) (by unfold maxLen; simp)
  have hb0 : Below w1.heap.size w1 (w1.alloc (.cells #[] 5)) := (Below.refl _ _).alloc (Nat.le_refl _) _
  have hr1 := hr.below (hb1.trans (hb0.mono h1s))
  go_wp2_with (at_builtin; refine wpList_append_buf _ rfl (.tmp 9) (.tmp 10) 22 rfl w1.heap.size 5 i5 (.int .u8 0) 1 Tryd.underlying22 hi5 hz0 hz1 hz2 rfl rfl hbf0 rfl hr1 (bys_one _) ?b1 ?b2 ?b0 ?next)
  case b1 => unfold maxLen; omega
  case b2 => omega
  case b0 => simp
  case next =>
    intro v1 w2 r1 r2 r3
    have hb2 : Below w1.heap.size w1 w2 := hb0.trans ((Below.refl _ _).grown r2 (by simp) fun k hk => (hbf0.lt k hk).1)
    have hB2 := hb1.trans (hb2.mono h1s)
    have bf2 : Buf w2 w1.heap.size v1 n (bys bs) := by simpa using r1
    obtain ⟨AM, cM, rfl, hcM, hrM⟩ := bf2.slice
    have hcm := bf2.cap_le
    clear r1 r2 r3 hbf0 hb0 hr1 hb2 bf2 hb1
    go_wp2_with fail
    refine (sum_any AM n cM bs w2 hrM HB.out (by omega) hcM hcm (HT.out.below hB2 HT.out.1)).mono ?_
    rintro e w3 ⟨rfl, hb3⟩
    have h2s := hB2.size
    have hB3 := hB2.trans (hb3.mono h2s)
    have hrM3 := hrM.below hb3
    have s23 := hb3.size
    clear hb3 hrM
    go_wp2_with fail
    refine (make_any _).mono ?_
    rintro e w4 ⟨rfl, hb4⟩
    have h3s := hB3.size
    have hB4 := hB3.trans (hb4.mono h3s)
    have hrM4 := hrM3.keep (w' := w4) (fun p hp => hb4.cell (by omega))
    have s34 := hb4.size
    clear hb4 hrM3
    go_wp2_with fail
    refine (ref_any A n c bs w4 ((hr.below hB4).up hB4.size) HB.out (by omega)).mono ?_
    rintro e w5 ⟨rfl, hb5⟩
    have h4s := hB4.size
    have hB5 := hB4.trans (hb5.mono h4s)
    have hrM5 := hrM4.keep (w' := w5) (fun p hp => hb5.cell (by omega))
    have hr5 := hr.below hB5
    have hdn := dg_len bs
    generalize dg bs = D at *
    have heq := dg_eql hi5 D hdn w5
    have hguard := run_eqGuard_agg (P := Tryd.prog) w5 .eql 25 (.tmp 13) (.tmp 16) (bys D).toArray (bys D).toArray Tryd.eqg25
    have cv1 := run_conv (P := Tryd.prog) cM hrM5 22 9 5 Tryd.underlying22 Tryd.underlying5 Tryd.underlying9
    have cv2 := run_conv (P := Tryd.prog) c hr5 22 9 5 Tryd.underlying22 Tryd.underlying5 Tryd.underlying9
    have hsame := strB_same bs
    clear hb5 hrM4 hrM5 hr5 hdn
    go_wp2_with fail
    go_ret
    exact ⟨rfl, hB5⟩

theorem make5 {i0 : TypeInfo} (hi : Tryd.prog.info? 5 = some i0) (hz0 : i0.zero = some (.int .u8 0)) (hz1 : i0.size = 1) (hz2 : i0.bytes = 1) (n : Nat) (hc : n ≤ 1000) (w : World) :
    (Instr.makeSlice 22 (.int .i64 (n : Int)) (.int .i64 (n : Int))).run Tryd.prog w = .ok (.slice (some ⟨w.heap.size, 0, none⟩) n n) (w.alloc (.cells (bys (List.replicate n 0)).toArray 5)) := by
  have := run_makeSlice (P := Tryd.prog) w 22 5 i0 (.int .u8 0) Tryd.underlying22 hi hz0 .i64 .i64 (n : Int) (n : Int) (by omega) (by omega) (by rw [hz1]; omega) (by rw [hz2]; omega) (by omega)
  rw [this, hz1]
  have e : madeCells (Value.int .u8 0).cells (n * 1) = (bys (List.replicate n 0)).toArray := by
    apply Array.toList_inj.1
    show (madeCells #[Value.int .u8 0] (n * 1)).toList = _
    rw [toList_madeCells_one]
    simp [bys]
  simp only [e, Int.toNat_natCast]
def fillL (C m j : Nat) : List Nat := List.replicate j C ++ List.replicate (m - j) 0
theorem fillL_len (C m j : Nat) : (fillL C m j).length = j + (m - j) := by simp [fillL]
theorem fillL_lt (C m j : Nat) (hC : C < 256) : ∀ c ∈ fillL C m j, c < 256 := by
  intro c hc
  simp [fillL] at hc
  omega
theorem fillL_at (C m j : Nat) (h : j < m) : (bys (fillL C m j))[j]? = some (.int .u8 0) := by
  simp [bys, fillL, List.getElem?_append, List.getElem?_replicate]; omega
theorem fillL_set (C m j : Nat) (h : j < m) : (bys (fillL C m j)).set j (.int .u8 (C : Int)) = bys (fillL C m (j + 1)) := by
  unfold bys fillL
  rw [← List.map_set (f := fun (c : Nat) => Value.int .u8 (c : Int)), List.set_append, if_neg (by simp), show m - j = m - (j + 1) + 1 by omega, List.replicate_succ, List.replicate_succ' (n := j)]
  simp
theorem i64_and511 (n : Int) : bits .and .i64 n 511 = n % 512 := by
  have h63 : (BitVec.ofInt 64 511).toNat = 2 ^ 9 - 1 := by decide
  have key : (BitVec.ofInt 64 n &&& BitVec.ofInt 64 511).toNat = (n % ((2 ^ 64 : Nat) : Int)).toNat % 2 ^ 9 := by
    rw [BitVec.toNat_and, BitVec.toNat_ofInt, h63, Nat.and_two_pow_sub_one_eq_mod]
  show IntKind.i64.wrap ((BitVec.ofInt 64 n &&& BitVec.ofInt 64 511).toNat : Nat) = n % 512
  rw [key, IntKind.wrap_i64]
  omega

set_option maxHeartbeats 1000000 in
set_option maxRecDepth 100000 in
theorem edges_walk (C : Nat) (hC : C < 256) (x : Int) (w : World) (ht : TabAt w) :
    Calls Tryd.prog 5 #[.int .u8 (C : Int), .int .i64 x] w fun e w' => e = .returned (.bool true) ∧ Below w.heap.size w w' := by
  obtain ⟨i5, hi5, hz0, hz1, hz2⟩ := info_parts Tryd.info5
  have HT := Lib.hid ht
  clear ht
  obtain ⟨m, hm, hx⟩ : ∃ m : Nat, m < 512 ∧ bits .and .i64 x 511 = (m : Int) := ⟨(x % 512).toNat, by omega, by rw [i64_and511]; omega⟩
  have hmk := fun wx => make5 hi5 hz0 hz1 hz2 m (by omega) wx
  rw [show List.replicate m 0 = fillL C m 0 by simp [fillL]] at hmk
  go_enter Tryd.func5, Tryd.ntmps5
  go_wp2_with fail
  refine (head_any _ HT.out).mono ?_
  rintro e w1 ⟨rfl, hb1⟩
  have h1s := hb1.size
  have bk : Blk (w1.alloc (.cells (bys (fillL C m 0)).toArray 5)) w1.heap.size 5 (bys (fillL C m 0)).toArray := Blk.new _ _ _
  have hB0 : Below w1.heap.size w1 (w1.alloc (.cells (bys (fillL C m 0)).toArray 5)) := (Below.refl _ _).alloc (Nat.le_refl _) _
  go_wp2_with fail
  clear hmk hx
  go_loopg [15] m (fun k v wr => ∃ j, k = m - j ∧ j ≤ m ∧ v = .int .i64 j ∧ Below w1.heap.size w1 wr ∧ Blk wr w1.heap.size 5 (bys (fillL C m j)).toArray)
  case atStart => exact ⟨0, rfl, Nat.zero_le _, rfl, hB0, bk⟩
  case round =>
    clear bk hB0
    obtain ⟨j, hk, hj, rfl, hB, bk⟩ := hrel
    have hM := Lib.hid hk
    clear hk
    by_cases hlt : j < m
    · have hlt' : (j : Int) < (m : Int) := by omega
      have q1 := bk.cell j _ (fillL_at C m j hlt)
      have q2 := bk.cold j
      have hset := Lib.hid (fillL_set C m j hlt)
      go_wp2_with fail
      go_roundg (m - (j + 1))
      case measure => have := hM.out; omega
      case rel =>
        refine ⟨j + 1, rfl, by omega, by go_num, hB.setCell (by simp) _, ?_⟩
        have h1 := bk.set j (.int .u8 (C : Int))
        rw [List.setIfInBounds_toArray, hset.out] at h1
        exact h1
    · obtain rfl : m = j := by omega
      have hdec : decide ((m : Int) < (m : Int)) = false := by simp
      have hll : (fillL C m m).length = m := by rw [fillL_len]; omega
      have hlb := fillL_lt C m m hC
      generalize fillL C m m = bs at *
      have HB := Lib.hid hlb
      have hrd := bk.rd m (by rw [bys_len]; exact hll)
      have hB2 := hb1.trans (hB.mono h1s)
      have h2s := hB2.size
      have HLL := Lib.hid hll
      clear hlb hll
      go_wp2_with fail
      refine (sum_any _ m m bs wr hrd HB.out (by omega) (Nat.le_refl _) (by unfold maxLen; omega) (HT.out.below hB2 HT.out.1)).mono ?_
      rintro e w3 ⟨rfl, hb3⟩
      have hB3 := hB2.trans (hb3.mono h2s)
      have bk3 := bk.below hb3 bk.lt
      clear hb3 hrd bk
      go_wp2_with fail
      refine (make_any _).mono ?_
      rintro e w4 ⟨rfl, hb4⟩
      have h3s := hB3.size
      have hB4 := hB3.trans (hb4.mono h3s)
      have bk4 := bk3.below hb4 bk3.lt
      clear hb4 bk3
      go_wp2_with fail
      refine (ref_any _ m m bs w4 (bk4.rd m (by rw [bys_len]; exact HLL.out)) HB.out (by omega)).mono ?_
      rintro e w5 ⟨rfl, hb5⟩
      have h4s := hB4.size
      have hB5 := hB4.trans (hb5.mono h4s)
      have hdn := dg_len bs
      generalize dg bs = D at *
      have heq := dg_eql hi5 D hdn w5
      have hguard := run_eqGuard_agg (P := Tryd.prog) w5 .eql 25 (.tmp 24) (.tmp 27) (bys D).toArray (bys D).toArray Tryd.eqg25
      clear hb5 hdn
      go_wp2_with fail
      go_ret
      exact ⟨rfl, hB5⟩
end Go.Proofs.YtibgbbplbefdpabDoor
