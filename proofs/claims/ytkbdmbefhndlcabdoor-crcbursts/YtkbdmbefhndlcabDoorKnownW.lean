/- The walk of CrcKnown. -/
import Derived.Test.YtkbdmbefhndlcabDoorW3
import Derived.OwnWalk
namespace Go.Proofs.YtkbdmbefhndlcabDoor
set_option linter.unusedSimpArgs false
set_option linter.unusedVariables false
open Go.RowKit

theorem i64_and63 (n : Int) : bits .and .i64 n 63 = n % 64 := by
  have h63 : (BitVec.ofInt 64 63).toNat = 2 ^ 6 - 1 := by decide
  have key : (BitVec.ofInt 64 n &&& BitVec.ofInt 64 63).toNat = (n % ((2 ^ 64 : Nat) : Int)).toNat % 2 ^ 6 := by
    rw [BitVec.toNat_and, BitVec.toNat_ofInt, h63, Nat.and_two_pow_sub_one_eq_mod]
  show IntKind.i64.wrap ((BitVec.ofInt 64 n &&& BitVec.ofInt 64 63).toNat : Nat) = n % 64
  rw [key, IntKind.wrap_i64]
  omega

/-- m bytes, the first j of which are C. -/
def fill (C m j : Nat) : List Nat := List.replicate j C ++ List.replicate (m - j) 0
theorem fill_zero (C m : Nat) : fill C m 0 = List.replicate m 0 := by simp [fill]
theorem fill_all (C m : Nat) : fill C m m = List.replicate m C := by simp [fill]
theorem fill_at (C m j : Nat) (h : j < m) : (bys (fill C m j))[j]? = some (.int .u8 0) := by
  rw [bys, List.getElem?_map, fill, List.getElem?_append_right (by simp), List.length_replicate, Nat.sub_self, show m - j = (m - j - 1) + 1 by omega, List.replicate_succ]
  rfl
theorem fill_set (C m j : Nat) (h : j < m) : (bys (fill C m j)).set j (.int .u8 (C : Int)) = bys (fill C m (j + 1)) := by
  have e : (fill C m j).set j C = fill C m (j + 1) := by
    unfold fill
    rw [List.set_append_right _ _ (by simp), List.length_replicate, Nat.sub_self, show m - j = (m - (j + 1)) + 1 by omega, List.replicate_succ, List.set_cons_zero, List.replicate_succ']
    simp
  rw [← e, bys, bys, List.map_set]

theorem own_rd {w : World} {base : Nat} {e : TypeId} {g n cap : Nat} {xs : List Value} (h : w.ownsRow base e 1 (.slice (some ⟨g, 0, none⟩) n cap) n xs) : Rd w w.heap.size (some ⟨g, 0, none⟩) n xs := by
  have hl : xs.length = n := by have := h.1; omega
  refine ⟨hl, fun hn => ⟨g, 0, rfl, (own_lt h g rfl).2, fun j u hu => ?_⟩⟩
  have hj : j < xs.length := (List.getElem?_eq_some_iff.1 hu).1
  rw [Nat.zero_add, h.cellAt j (by omega), hu]
theorem rd_one (w : World) (C : Nat) : Rd (w.alloc (.cells #[.int .u8 (C : Int)] 5)) (w.alloc (.cells #[.int .u8 (C : Int)] 5)).heap.size (some ⟨w.heap.size, 0, none⟩) 1 (bys [C]) :=
  ⟨rfl, fun _ => ⟨_, _, rfl, by simp, fun j u' hu => by
    have := cell_one_new w _ 5 j u' hu
    rwa [Addr.add_lit] at this⟩⟩

set_option maxHeartbeats 1000000 in
set_option maxRecDepth 100000 in
theorem known_walk (C : Nat) (hC : C < 256) (x : Int) (w : World) (ht : TabAt w) :
    Calls Tryd.prog 8 #[.int .u8 (C : Int), .int .i64 x] w fun e w' => e = .returned (.bool true) ∧ Below w.heap.size w w' := by
  obtain ⟨i0, hi, hz0, hz1, hz2⟩ := info_parts Tryd.info5
  have HT := Lib.hid ht
  clear ht
  obtain ⟨m, hm, hx⟩ : ∃ m : Nat, m < 64 ∧ bits .and .i64 x 63 = (m : Int) := ⟨(x % 64).toNat, by omega, by rw [i64_and63]; omega⟩
  go_enter Tryd.func8, Tryd.ntmps8
  go_wp2_with fail
  refine (head_any _ HT.out).mono ?_
  rintro e w1 ⟨rfl, hw1⟩
  have hT1 := Lib.hid (HT.out.below hw1 HT.out.1)
  have hs1 := hw1.size
  go_wp2_with (at_make; refine wpList_make_full _ rfl (.tmp 11) (.tmp 11) 22 rfl w1.heap.size 5 i0 (.int .u8 0) 1 Tryd.underlying22 hi hz0 hz1 .i64 .i64 _ _ m rfl rfl ?b0 ?b1 ?b2 ?b3 (Nat.le_refl _) ?next)
  case b0 => first | rfl | exact hx
  case b1 => first | rfl | exact hx
  case b2 => rw [hz2]; omega
  case b3 => unfold maxLen; omega
  case next =>
    intro w2 r1 r2
    have hB1 := (Below.refl w1.heap.size w1).grown r2 (Nat.le_refl _) fun k hk => by cases hk
    have hO : w2.ownsRow w1.heap.size 5 1 (.slice (some ⟨w1.heap.size, 0, none⟩) m m) m (bys (List.replicate m 0)) := by
      have e : (madeCells #[.int .u8 0] m).toList = bys (List.replicate m 0) := by
        rw [toList_madeCells_one]
        simp [bys]
      rwa [e] at r1
    clear r1 r2
    have hw2 := hw1.trans (hB1.mono hs1)
    have hs2 := hB1.size
    have hO2 : w2.ownsRow w1.heap.size 5 1 (.slice (some ⟨w1.heap.size, 0, none⟩) m m) m (bys (fill C m 0)) := by rw [fill_zero]; exact hO
    clear hO
    go_wp2_with fail
    go_loopg [15] m (fun k i wr => ∃ j : Nat, k = m - j ∧ j ≤ m ∧ i = .int .i64 (j : Int) ∧ Below w1.heap.size w1 wr ∧ wr.ownsRow w1.heap.size 5 1 (.slice (some ⟨w1.heap.size, 0, none⟩) m m) m (bys (fill C m j)))
    case atStart => exact ⟨0, rfl, Nat.zero_le _, rfl, hB1, hO2⟩
    case round =>
      obtain ⟨j, hk, hj, rfl, hbw, hO⟩ := hrel
      have hK := Lib.hid hk
      clear hk hO2 hB1 hw2 hs2
      by_cases hlt : j < m
      · have hlt' : (j : Int) < (m : Int) := by omega
        have hcell : wr.cell? ⟨w1.heap.size, j, none⟩ = some (.int .u8 0) := (hO.cellAt j (by omega)).trans (fill_at C m j hlt)
        have hcold := hO.frozenAt j
        obtain ⟨st1, st2⟩ := hO.stored j (.int .u8 (C : Int))
        rw [fill_set C m j hlt] at st1
        have hbw2 := hbw.setCell (p := ⟨w1.heap.size, j, none⟩) (Nat.le_refl _) (.int .u8 (C : Int))
        go_wp2
        go_roundg (m - (j + 1))
        case measure => have := hK.out; omega
        case rel => exact ⟨j + 1, rfl, by omega, by go_num, hbw2, st1⟩
      · obtain rfl : m = j := by omega
        have hd : decide ((m : Int) < (m : Int)) = false := by simp
        rw [fill_all] at hO
        have hs := hbw.size
        have hTr := Lib.hid (hT1.out.below hbw hT1.out.1)
        have hfin := hw1.trans (hbw.mono hs1)
        have hnil : Rd wr wr.heap.size none 0 (bys []) := ⟨rfl, fun h => absurd h (by omega)⟩
        have hz : ((nt (crcR (nt 0) []) : Nat) : Int) = 0 := by rw [show crcR (nt 0) [] = nt 0 from rfl, nt_nt]; rfl
        go_wp2_with fail
        refine (sum_any none 0 0 [] wr _ hnil (by simp) (by omega) hTr.out).mono ?_
        rintro e w2 ⟨rfl, rfl⟩
        rw [hz]
        have hCb : ∀ c ∈ [C], c < 256 := by simpa using hC
        have hRb : ∀ c ∈ List.replicate m C, c < 256 := by intro c hc; rw [List.eq_of_mem_replicate hc]; exact hC
        have hAb : ∀ c ∈ List.replicate m C ++ [C], c < 256 := by
          intro c hc
          rcases List.mem_append.1 hc with h | h
          · exact hRb c h
          · exact hCb c h
        have E1 := Lib.hid (show nt (crcR (nt (nt (crcR (nt 0) (List.replicate m C)))) [C]) = nt (crcR (nt 0) (List.replicate m C ++ [C])) by rw [nt_nt, crcR_app])
        have L1 := Lib.hid (nt_lt _ (crcR_lt (List.replicate m C) (nt 0) (nt_lt 0 (by omega)) hRb))
        have hba : Below wr.heap.size wr (wr.alloc (.cells #[.int .u8 (C : Int)] 5)) := (Below.refl _ _).alloc (Nat.le_refl _) _
        have hTa := Lib.hid (hTr.out.below hba hTr.out.1)
        go_wp2_with fail
        refine (sum_any _ _ _ [C] _ _ (rd_one wr C) hCb (by omega) hTa.out).mono ?_
        rintro e w2 ⟨rfl, rfl⟩
        generalize hW2 : wr.alloc (.cells #[.int .u8 (C : Int)] 5) = W2 at *
        clear hW2
        have hs2 := hba.size
        have hbb : Below wr.heap.size wr (W2.alloc (.cells #[.int .u8 (C : Int)] 5)) := hba.alloc hs2 _
        generalize hq1 : nt (crcR (nt 0) [C]) = q1 at *
        have HQ1 := Lib.hid hq1
        clear hq1
        go_wp2_with fail
        refine (refsum_any _ _ _ [C] _ (rd_one W2 C) hCb (by omega)).mono ?_
        rintro e w3 ⟨rfl, hw3⟩
        rw [HQ1.out]
        have hb3 := hbb.trans (hw3.mono (show wr.heap.size ≤ (W2.alloc (.cells #[.int .u8 (C : Int)] 5)).heap.size by simp; omega))
        have hO3 := own_below hO hb3 (fun k hk => (own_lt hO k hk).2)
        have hT3 := Lib.hid (hTr.out.below hb3 hTr.out.1)
        have hs3 := hb3.size
        clear hO hba hbb hw3 hTa hs2
        generalize hq2 : nt (crcR (nt 0) (List.replicate m C)) = q2 at *
        have HQ2 := Lib.hid hq2
        clear hq2
        go_wp2_with fail
        refine (sum_any _ m m (List.replicate m C) w3 _ (own_rd hO3) hRb (by omega) hT3.out).mono ?_
        rintro e w4 ⟨rfl, rfl⟩
        rw [HQ2.out]
        have hb4 := hb3.alloc hs3 (.cells #[.int .u8 (C : Int)] 5)
        have hT4 := Lib.hid (hTr.out.below hb4 hTr.out.1)
        have hq2l : (q2 : Int) ≤ 4294967295 := by have := L1.out; omega
        go_wp2_with fail
        refine (more_any q2 hq2l _ 1 1 [C] _ _ (rd_one w3 C) hCb (by omega) hT4.out).mono ?_
        rintro e w4 ⟨rfl, rfl⟩
        rw [E1.out]
        have hO4 := own_below hO3 ((Below.refl w3.heap.size w3).alloc (Nat.le_refl _) (.cells #[.int .u8 (C : Int)] 5)) (fun k hk => (own_lt hO3 k hk).2)
        have hs4 := hb4.size
        generalize w3.alloc (.cells #[.int .u8 (C : Int)] 5) = W4 at *
        have hBuf := Buf.of_own hO4
        generalize hq3 : nt (crcR (nt 0) (List.replicate m C ++ [C])) = q3 at *
        have HQ3 := Lib.hid hq3
        clear hq3
        have hb1' : w1.heap.size ≤ W4.heap.size := by omega
        have hfin4 := hfin.trans (hb4.mono (Nat.le_trans hs1 hs))
        go_wp2_with (at_builtin; refine wpList_step fun K hK => operwp_append_one (w := W4) (v := .slice (some ⟨w1.heap.size, 0, none⟩) m m) (n := m) (xs := bys (List.replicate m C)) (u := .int .u8 (C : Int)) ?g4 (.tmp 40) (.tmp 42) 22 rfl w1.heap.size 5 i0 (.int .u8 0) 1 Tryd.underlying22 hi hz0 hz1 hz2 rfl ?e4 hBuf ?x4 rfl ?c1 ?c2 hb1' ?next4)
        case e4 => rfl
        case x4 => rfl
        case c1 => unfold maxLen; omega
        case c2 => omega
        case next4 =>
          intro v5 w5 r1 r2 r3
          refine hK _ _ ?_
          clear hK K
          have hB5 := (Below.refl w1.heap.size W4).grown r2 hb1' fun k hk => (hBuf.lt k hk).1
          obtain ⟨A5, c5, rfl, hc5, hr5⟩ := r1.slice
          have hr5' : Rd w5 w5.heap.size A5 (m + 1) (bys (List.replicate m C ++ [C])) := by rw [bys_app]; exact hr5
          have hfin5 := hfin4.trans (hB5.mono hs1)
          have hs5 := hfin5.size
          clear hr5 r1 r2 r3
          (try simp only [Act.put, List.setIfInBounds_toArray, List.set_cons_zero, List.set_cons_succ])
          go_wp2_with fail
          refine (refsum_any A5 (m + 1) c5 _ w5 hr5' hAb (by omega)).mono ?_
          rintro e w6 ⟨rfl, hw6⟩
          rw [HQ3.out]
          go_wp2
          go_ret
          exact ⟨by simp, hfin5.trans (hw6.mono hs5)⟩
end Go.Proofs.YtkbdmbefhndlcabDoor
