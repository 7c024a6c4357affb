/- The walk of RecordLong. -/
import Derived.Test.YtahbhaphodgomabDoorR5
import Derived.Deep.DeepCutAuto
namespace Go.Proofs.YtahbhaphodgomabDoor
set_option linter.unusedSimpArgs false
set_option linter.unusedVariables false
open Go.RowKit

theorem i64_and7 (n : Int) : bits .and .i64 n 7 = n % 8 := by
  have h63 : (BitVec.ofInt 64 7).toNat = 2 ^ 3 - 1 := by decide
  have key : (BitVec.ofInt 64 n &&& BitVec.ofInt 64 7).toNat = (n % ((2 ^ 64 : Nat) : Int)).toNat % 2 ^ 3 := by
    rw [BitVec.toNat_and, BitVec.toNat_ofInt, h63, Nat.and_two_pow_sub_one_eq_mod]
  show IntKind.i64.wrap ((BitVec.ofInt 64 n &&& BitVec.ofInt 64 7).toNat : Nat) = n % 8
  rw [key, IntKind.wrap_i64]
  omega

theorem make5 {i0 : TypeInfo} (hi : Tryd.prog.info? 5 = some i0) (hz0 : i0.zero = some (.int .u8 0)) (hz1 : i0.size = 1) (hz2 : i0.bytes = 1) (n : Nat) (hc : n ≤ 2000000) (w : World) :
    (Instr.makeSlice 22 (.int .i64 (n : Int)) (.int .i64 (n : Int))).run Tryd.prog w = .ok (.slice (some ⟨w.heap.size, 0, none⟩) n n) (w.alloc (.cells (bys (List.replicate n 0)).toArray 5)) := by
  have := run_makeSlice (P := Tryd.prog) w 22 5 i0 (.int .u8 0) Tryd.underlying22 hi hz0 .i64 .i64 (n : Int) (n : Int) (by omega) (by omega) (by rw [hz1]; omega) (by rw [hz2]; omega) (by omega)
  rw [this, hz1]
  have e : madeCells (Value.int .u8 0).cells (n * 1) = (bys (List.replicate n 0)).toArray := by
    apply Array.toList_inj.1
    show (madeCells #[Value.int .u8 0] (n * 1)).toList = _
    rw [toList_madeCells_one]
    simp [bys]
  simp only [e, Int.toNat_natCast]

set_option maxHeartbeats 1000000 in
theorem long_early (A : Option Addr) (n c : Nat) (x : Int) (w : World) (ht : TabAt w) (h : (300 : Int) < (n : Int)) :
    Calls Tryd.prog 7 #[.slice A n c, .int .i64 x] w fun e w' => e = .returned (.bool true) ∧ Below w.heap.size w w' := by
  have HT := Lib.hid ht
  clear ht
  go_enter Tryd.func7, Tryd.ntmps7
  go_wp2_with fail
  refine (head_any _ HT.out).mono ?_
  rintro e w1 ⟨rfl, hb1⟩
  go_wp2_with fail
  go_ret
  exact ⟨rfl, hb1⟩

set_option maxHeartbeats 1000000 in
set_option maxRecDepth 100000 in
theorem long_walk (A : Option Addr) (n c : Nat) (bs : List Nat) (x : Int) (w : World) (hr : Rd w w.heap.size A n (bys bs)) (hb : ∀ c ∈ bs, c < 256) (ht : TabAt w) (hn : (n : Int) ≤ 300) (hc : n ≤ c) :
    Calls Tryd.prog 7 #[.slice A n c, .int .i64 x] w fun e w' => e = .returned (.bool true) ∧ Below w.heap.size w w' := by
  obtain ⟨i0, hi, hz0, hz1, hz2⟩ := info_parts Tryd.info5
  have HT := Lib.hid ht
  have HB := Lib.hid hb
  clear ht hb
  have hbl : Hid (bs.length = n) := Lib.hid (by have := hr.1; rwa [bys_len] at this)
  have hd3 : decide ((300 : Int) < (n : Int)) = false := by simp; omega
  obtain ⟨q, hq8, hq⟩ : ∃ q : Nat, (q : Int) < 8 ∧ bits .and .i64 x 7 = (q : Int) := ⟨(x % 8).toNat, by omega, by rw [i64_and7]; omega⟩
  go_enter Tryd.func7, Tryd.ntmps7
  go_wp2_with fail
  refine (head_any _ HT.out).mono ?_
  rintro e w1 ⟨rfl, hb1⟩
  have hs1 := hb1.size
  have hr1 := hr.below hb1
  have ht1 := HT.out.below hb1 HT.out.1
  obtain ⟨L, hL⟩ : ∃ L : Nat, 1048573 + (q : Int) = (L : Int) := ⟨1048573 + q, by omega⟩
  have hmk := make5 hi hz0 hz1 hz2 L (by omega) w1
  obtain ⟨Z, hZl, hZb, hZ⟩ : ∃ Z : List Nat, Z.length = L ∧ (∀ c ∈ Z, c < 256) ∧ (Instr.makeSlice 22 (.int .i64 (L : Int)) (.int .i64 (L : Int))).run Tryd.prog w1 = .ok (.slice (some ⟨w1.heap.size, 0, none⟩) L L) (w1.alloc (.cells (bys Z).toArray 5)) :=
    ⟨List.replicate L 0, by simp, fun c hc => by have := List.eq_of_mem_replicate hc; omega, hmk⟩
  clear hmk
  have hrz0 := Rd.lit w1 (bys Z).toArray 5 L (by simp [bys_len, hZl])
  have hba2 : Below w1.heap.size w1 (w1.alloc (.cells (bys Z).toArray 5)) := (Below.refl _ _).alloc (Nat.le_refl _) _
  have hs2 : (w1.alloc (.cells (bys Z).toArray 5)).heap.size = w1.heap.size + 1 := by simp
  have hrz : Rd (w1.alloc (.cells (bys Z).toArray 5)) (w1.heap.size + 1) (some ⟨w1.heap.size, 0, none⟩) L (bys Z) := hrz0
  have hb0 := Buf.new (w1.alloc (.cells (bys Z).toArray 5)) (w1.heap.size + 1) 5 #[] (0, 0) (by simp) (by unfold maxLen; simp)
  have hba3 : Below (w1.heap.size + 1) (w1.alloc (.cells (bys Z).toArray 5)) ((w1.alloc (.cells (bys Z).toArray 5)).alloc (.cells #[] 5)) := (Below.refl _ _).alloc (by simp) _
  rw [hs2] at hb0
  have hr3 : Rd ((w1.alloc (.cells (bys Z).toArray 5)).alloc (.cells #[] 5)) w.heap.size A n (bys bs) := (hr1.below (hba2.mono hs1)).below (hba3.mono (by omega))
  have hlen3 : ((w1.alloc (.cells (bys Z).toArray 5)).alloc (.cells #[] 5)).heap.size = w1.heap.size + 1 + 1 := by simp
  go_wp2_with (at_builtin; refine wpList_append_buf _ rfl (.tmp 22) (.tmp 23) 22 rfl (w1.heap.size + 1) 5 i0 (.int .u8 0) 1 Tryd.underlying22 hi hz0 hz1 hz2 rfl rfl hb0 rfl hr3 (bys_one _) ?b1 ?b2 ?b3 ?next)
  case b1 => unfold maxLen; first | omega | (simp; omega)
  case b2 => first | omega | (simp; omega)
  case b3 => omega
  case next =>
    intro v4 w4 r1 r2 r3
    have r1' : Buf w4 (w1.heap.size + 1) v4 n (bys bs) := by simpa using r1
    have hB4 : Below (w1.heap.size + 1) (w1.alloc (.cells (bys Z).toArray 5)) w4 := hba3.grown r2 (by omega) (fun k hk => by simp [Value.ownBlock] at hk; omega)
    have hB4w : Below w.heap.size w w4 := (hb1.trans (hba2.mono hs1)).trans (hB4.mono (by omega))
    have hrz4 := hrz.below hB4
    have hs4 : w1.heap.size + 1 ≤ w4.heap.size := by have := hB4.size; omega
    have ht4 := HT.out.below hB4w HT.out.1
    have hrb4 := hr.below hB4w
    clear r1 r2 r3 hb0 hba2 hba3 hr3 hlen3 hrz hrz0 hB4 hZ hs2
    obtain ⟨A4, c4, rfl, hc4, hrd4⟩ := r1'.slice
    by_cases hq3 : (3 : Int) < (q : Int)
    · have hcv1 := run_conv (P := Tryd.prog) c4 hrd4 22 9 5 Tryd.underlying22 Tryd.underlying5 Tryd.underlying9
      have hcv2 := run_conv (P := Tryd.prog) c hrb4 22 9 5 Tryd.underlying22 Tryd.underlying5 Tryd.underlying9
      have hsame := strB_same bs
      go_wp2_with fail
      refine (put_long _ _ L L w4 (by omega)).mono ?_
      rintro e w5 ⟨rfl, rfl⟩
      go_wp2_with fail
      go_ret
      exact ⟨rfl, hB4w⟩
    · have hq3' : decide ((3 : Int) < (q : Int)) = false := by simp; omega
      have hap : ∀ g off, some (⟨w1.heap.size, 0, none⟩ : Addr) = some ⟨g, off, none⟩ → 0 < L → (Value.slice A4 n c4).ownBlock ≠ some g := by
        intro g off e _ hv
        injection e with e
        injection e with e1 _
        have := (r1'.lt g hv).1
        omega
      go_wp2_with fail
      refine (put_any (some ⟨w1.heap.size, 0, none⟩) L L Z w4 (w1.heap.size + 1) r1' (by omega) hs4 (hrz4.up hs4) hZb (by omega) hap ht4).mono ?_
      rintro e w5 ⟨v5, rfl, hl5⟩
      have hB5 := hl5.below r1' hs4
      have hB5w := hB4w.trans (hB5.mono (by omega))
      obtain ⟨A5, c5, rfl, hc5, hcm5, hr5⟩ := laid_len hl5
      have hrd5 := hr5.drop n c5 (by omega) hc5
      have hbd : (bys bs ++ bys (recB Z)).drop n = bys (recB Z) := by rw [List.drop_left' (by rw [bys_len, hbl.out])]
      rw [hbd, show n + (12 + L) - n = 12 + L by omega] at hrd5
      have hsl := fun wx => run_slice_l (P := Tryd.prog) wx 22 5 i0 Tryd.underlying22 hi hz1 A5 (n + (12 + L)) c5 n (by omega) .i64 (n : Int) rfl
      rw [show n + (12 + L) - n = 12 + L by omega] at hsl
      generalize (if c5 = n then A5 else A5.map (·.add n)) = A6 at *
      have hnr := next_rec Z [] (by omega)
      rw [List.append_nil] at hnr
      have HN := Lib.hid (next_any A6 (12 + L) (c5 - n) (recB Z) w5 hrd5 (recB_lt Z hZb) (by omega) (by omega) (by omega) (ht4.below (hB5.mono (by omega : 0 + 1 ≤ w1.heap.size + 1)) (by omega)))
      clear hrd5 hr5 hl5 hbd hap
      go_wp2_with fail
      refine HN.out.mono ?_
      rintro e w6 ⟨v6, rfl, hl6⟩
      rw [hnr.1, hnr.2.2, hZl]
      rw [hnr.2.1, hZl] at hl6
      have hB6 := hl6.below (Buf.nil w5 _) (Nat.le_refl _)
      have hB6w := hB5w.trans (hB6.mono hB5w.size)
      obtain ⟨A7, c7, rfl, _, _, _⟩ := laid_len hl6
      clear hnr
      have hLI : (L : Int) ≤ 1048576 := by omega
      go_wp2_with fail
      go_ret
      exact ⟨rfl, hB6w⟩
end Go.Proofs.YtahbhaphodgomabDoor
