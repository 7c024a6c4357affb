/- Walks: head. -/
import Derived.Test.YtahbhaphodgomaaE4
import Derived.Test.YtahbhaphodgomaaApp
import Derived.Lib.SlBytesConst
namespace Go.Proofs.Ytahbhaphodgomaa
set_option linter.unusedSimpArgs false
set_option linter.unusedVariables false
open Go.RowKit Go.Maps

theorem Nxt.go {w w1 w2 : World} {base gd : Nat} {L : List Nat} {s1 s2 : DS} (hn : Nxt w1 base gd L w2 s2) (h : Dk w1 base gd L s1) (hb : Below base w w1) (hB : base ≤ w1.heap.size) : ∃ L2, Dk w2 base gd L2 s2 ∧ Below base w w2 ∧ base ≤ w2.heap.size := by
  have hb2 := hn.below h hB
  obtain ⟨L2, hd, _, _⟩ := hn
  exact ⟨L2, hd, hb.trans hb2, Nat.le_trans hB hb2.size⟩
theorem Rd.mark (w : World) (C : Array Value) (e : TypeId) (m : Nat) (fr : Nat × Nat) (hm : C.size = m) : Rd (w.alloc (.cells C e fr)) (w.heap.size + 1) (some ⟨w.heap.size, 0, none⟩) m C.toList := by
  refine ⟨by simpa using hm, fun _ => ⟨_, _, rfl, Nat.lt_succ_self _, fun j u hu => ?_⟩⟩
  rw [Nat.zero_add, World.cell?_alloc_mark]
  simpa using hu
theorem hd_s1 : (⟨[], clamp 100, 0, false⟩ : DS).create [97] = (⟨[⟨[97], [], 0⟩], 100, 0, false⟩, 0) := by rfl
theorem hd_s2 : (⟨[⟨[97], [], 0⟩], 100, 0, false⟩ : DS).append [97] [97, 98] = (⟨[⟨[97], [97, 98], 0⟩], 100, 0, false⟩, 0) := by rfl
theorem hd_s3 : (⟨[⟨[97], [97, 98], 0⟩], 100, 0, false⟩ : DS).sync [97] = (⟨[⟨[97], [97, 98], 2⟩], 100, 0, false⟩, 0) := by rfl
theorem hd_s4 : (⟨[⟨[97], [97, 98], 2⟩], 100, 0, false⟩ : DS).append [97] [99, 100] = (⟨[⟨[97], [97, 98, 99, 100], 2⟩], 100, 0, false⟩, 0) := by rfl
theorem hd_s5 : (⟨[⟨[97], [97, 98, 99, 100], 2⟩], 100, 0, false⟩ : DS).crash [1] = ⟨[⟨[97], [97, 98, 99], 3⟩], 100, 0, false⟩ := by rfl
theorem hd_s6 : (⟨[⟨[97], [97, 98, 99], 3⟩], 100, 0, false⟩ : DS).read [97] 0 9 = ([97, 98, 99], 0) := by rfl
theorem Dk.used {w : World} {base gd : Nat} {L : List Nat} {s : DS} (h : Dk w base gd L s) : Calls Try.prog 28 #[.pointer (some ⟨gd, 0, none⟩)] w fun e w' => e = .returned (.int .i64 (usedA s.all : Int)) ∧ Below w.heap.size w w' := by
  obtain ⟨mv, fs, hd, hA, _⟩ := h
  have := used_any w base gd mv fs _ _ _ hd
  rwa [← usedA_abs, hA] at this
theorem Dk.fresh {w : World} {base gd : Nat} {L : List Nat} {s : DS} (h : Dk w base gd L s) {g : Nat} (hg : w.heap.size ≤ g) : g ∉ L := fun hm => by have := (h.low g hm).2; omega

set_option maxHeartbeats 2000000 in
set_option maxRecDepth 100000 in
theorem head_any (w : World) : Calls Try.prog 9 #[] w fun e w' => e = .returned (.bool true) ∧ Below w.heap.size w w' := by
  have kc := fun (w : World) (C : Array Value) (n c : Nat) => Lib.run_convert_bytes_const (P := Try.prog) w 29 5 C n c Try.underlying29 Try.underlying5
  go_enter Try.func9, Try.ntmps9
  go_wp2_with fail
  refine (new_any 100 w (by decide) w.heap.size (Nat.le_refl _)).mono ?_
  rintro e w1 ⟨rfl, hd1, hb1⟩
  have hz1 := hb1.size
  have HC := create_any w1 _ _ _ _ [97] hd1 (by decide) hz1 (by decide)
  rw [hd_s1] at HC
  unfold str at HC
  go_wp2_with fail
  refine HC.mono ?_
  rintro e w2 ⟨rfl, hn2⟩
  obtain ⟨L2, hd2, hb2, hz2⟩ := hn2.go hd1 hb1 hz1
  have hb2a := hb2.alloc hz2 (.cells #[.int .u8 97, .int .u8 98] 5 (2, 3))
  have hd2a := hd2.below ((Below.refl _ _).alloc (Nat.le_refl _) (.cells #[.int .u8 97, .int .u8 98] 5 (2, 3)))
  have hr2 := Rd.mark w2 #[.int .u8 97, .int .u8 98] 5 2 (2, 3) rfl
  have HA := append_any (w2.alloc (.cells #[.int .u8 97, .int .u8 98] 5 (2, 3))) _ _ _ _ [97] (some ⟨w2.heap.size, 0, none⟩) 2 2 [97, 98] hd2a (by decide) hb2a.size (hr2.up (by simp)) (by decide) (by decide) (by intro g off e _; injection e with e; injection e with e; exact hd2.fresh (by omega))
  rw [hd_s2] at HA
  unfold str at HA
  clear HC hn2 hd1 hb1
  go_wp2_with fail
  refine HA.mono ?_
  rintro e w3 ⟨rfl, hn3⟩
  obtain ⟨L3, hd3, hb3, hz3⟩ := hn3.go hd2a hb2a hb2a.size
  have HS := sync_any w3 _ _ _ _ [97] hd3 (by decide) hz3
  rw [hd_s3] at HS
  unfold str at HS
  clear HA hn3 hd2 hd2a hb2 hb2a hr2
  go_wp2_with fail
  refine HS.mono ?_
  rintro e w4 ⟨rfl, hn4⟩
  obtain ⟨L4, hd4, hb4, hz4⟩ := hn4.go hd3 hb3 hz3
  have hb4a := hb4.alloc hz4 (.cells #[.int .u8 99, .int .u8 100] 5 (2, 3))
  have hd4a := hd4.below ((Below.refl _ _).alloc (Nat.le_refl _) (.cells #[.int .u8 99, .int .u8 100] 5 (2, 3)))
  have hr4 := Rd.mark w4 #[.int .u8 99, .int .u8 100] 5 2 (2, 3) rfl
  have HA := append_any (w4.alloc (.cells #[.int .u8 99, .int .u8 100] 5 (2, 3))) _ _ _ _ [97] (some ⟨w4.heap.size, 0, none⟩) 2 2 [99, 100] hd4a (by decide) hb4a.size (hr4.up (by simp)) (by decide) (by decide) (by intro g off e _; injection e with e; injection e with e; exact hd4.fresh (by omega))
  rw [hd_s4] at HA
  unfold str at HA
  clear HS hn4 hd3 hb3
  go_wp2_with fail
  refine HA.mono ?_
  rintro e w5 ⟨rfl, hn5⟩
  obtain ⟨L5, hd5, hb5, hz5⟩ := hn5.go hd4a hb4a hb4a.size
  have hb5a := hb5.alloc hz5 (.cells #[.int .i64 1] 3)
  have hd5a := hd5.below ((Below.refl _ _).alloc (Nat.le_refl _) (.cells #[.int .i64 1] 3))
  have hr5 := Rd.lit w5 #[.int .i64 1] 3 1 rfl
  have HK := crash_any (w5.alloc (.cells #[.int .i64 1] 3)) _ _ _ _ (some ⟨w5.heap.size, 0, none⟩) 1 1 [1] hd5a hb5a.size (by decide) (hr5.up (by simp)) (by decide) (Nat.le_refl _) (by unfold maxLen; omega) (by intro g off e _; injection e with e; injection e with e; exact hd5.fresh (by omega))
  rw [hd_s5] at HK
  clear HA hn5 hd4 hd4a hb4 hb4a hr4
  go_wp2_with fail
  refine HK.mono ?_
  rintro e w6 ⟨rfl, hn6⟩
  obtain ⟨L6, hd6, hb6, hz6⟩ := hn6.go hd5a hb5a hb5a.size
  have HR := read_any w6 _ _ _ _ [97] 0 9 hd6 (by decide) (by decide) (by decide)
  rw [hd_s6] at HR
  unfold str at HR
  clear HK hn6 hd5 hd5a hb5 hb5a hr5
  go_wp2_with fail
  refine HR.mono ?_
  rintro e w7 ⟨v7, rfl, hbuf7, hb7⟩
  have hd7 := hd6.below hb7
  have hb7w := hb6.trans (hb7.mono hz6)
  obtain ⟨A7, c7, rfl, _, hr7⟩ := hbuf7.slice
  have hr7 : Rd w7 w7.heap.size A7 3 (bys [97, 98, 99]) := hr7
  have cv := run_conv (P := Try.prog) c7 hr7 29 9 5 Try.underlying29 Try.underlying5 Try.underlying9
  rw [show strB [97, 98, 99] = ⟨#[97, 98, 99]⟩ from rfl] at cv
  have HU := hd7.used
  rw [show usedA (⟨[⟨[97], [97, 98, 99], 3⟩], 100, 0, false⟩ : DS).all = 3 from rfl] at HU
  clear HR hd6 hbuf7 hd7
  go_wp2_with fail
  refine HU.mono ?_
  rintro e w8 ⟨rfl, hb8⟩
  have hb8w := hb7w.trans (hb8.mono hb7w.size)
  go_wp2_with fail
  go_ret
  exact ⟨rfl, hb8w⟩
end Go.Proofs.Ytahbhaphodgomaa
