/- The reference's check. -/
import Derived.Test.YtajgmadohhagkaaDoorBit
import Derived.Test.YtajgmadohhagkaaDoorApp
import Derived.Deep.QuietTactic
import Derived.BigQuiet
import Derived.Deep.RegionHeld3
import Derived.Deep.DeepCutAuto
import Derived.Deep.LoopGhost
import Derived.Maps.AppendAt
import Derived.Laws.OwnMore
import Derived.IntWalk
import Derived.StillTailTactics
namespace Go.Proofs.YtajgmadohhagkaaDoor
set_option linter.unusedSimpArgs false
set_option linter.unusedVariables false
open Go.RowKit

/-- The register as a row of bits of its own, beside the row of the polynomial. -/
structure Reg (w : World) (base : Nat) (w0 : World) (v vp : Value) (R : Nat) : Prop where
  own : w.ownsRow base 3 1 v 32 (ints (bl R 32))
  pol : Buf w base vp 32 (ints (bl PP 32))
  apart : Apart v vp
  below : Below base w0 w
  base_le : base ≤ w.heap.size

theorem Reg.stored {w : World} {base : Nat} {w0 : World} {vp : Value} {R R' g cap j : Nat} (h : Reg w base w0 (.slice (some ⟨g, 0, none⟩) 32 cap) vp R) (y : Nat) (e : (bl R 32).set j y = bl R' 32) (Y : Int) (hY : Y = (y : Int)) :
    Reg (w.setCell ⟨g, j, none⟩ (.int .i64 Y)) base w0 (.slice (some ⟨g, 0, none⟩) 32 cap) vp R' := by
  subst hY
  obtain ⟨h1, h2⟩ := h.own.stored j (.int .i64 (y : Int))
  have hg := (own_lt h.own g rfl).1
  refine ⟨?_, h.pol.grown h2 fun k hk e => h.apart k e.symm hk, h.apart, h.below.setCell hg _, by simpa using h.base_le⟩
  rw [← e]
  simpa [ints, List.map_set] using h1
theorem Reg.bit {w : World} {base : Nat} {w0 : World} {vp : Value} {R g cap j : Nat} (h : Reg w base w0 (.slice (some ⟨g, 0, none⟩) 32 cap) vp R) (hj : j < 32) : w.cell? ⟨g, j, none⟩ = some (.int .i64 ((R / 2 ^ j % 2 : Nat) : Int)) := by
  obtain ⟨A, c, e, _, hr⟩ := (Buf.of_own h.own).slice
  injection e with e1 e2 e3
  subst e1
  obtain ⟨g', off, e, _, hc⟩ := hr.2 (by omega)
  injection e with e
  injection e with e1 e2
  subst e1
  subst e2
  have := hc j (.int .i64 ((R / 2 ^ j % 2 : Nat) : Int)) (by simp [ints, bl_get R 32 j hj])
  simpa using this
theorem Reg.cold {w : World} {base : Nat} {w0 : World} {vp : Value} {R g cap : Nat} (h : Reg w base w0 (.slice (some ⟨g, 0, none⟩) 32 cap) vp R) (j : Nat) : w.frozen? ⟨g, j, none⟩ = false := h.own.frozenAt j
theorem Reg.drew {w : World} {base : Nat} {w0 : World} {v vp : Value} {R : Nat} (h : Reg w base w0 v vp R) : Reg w.drew base w0 v vp R :=
  ⟨h.own, h.pol, h.apart, ⟨h.below.os, h.below.tape, h.below.output, h.below.size, h.below.block⟩, h.base_le⟩
theorem Reg.polbit {w : World} {base : Nat} {w0 : World} {v vp : Value} {R j : Nat} (h : Reg w base w0 v vp R) (hj : j < 32) : ∃ gp op cp, vp = .slice (some ⟨gp, op, none⟩) 32 cp ∧ w.cell? ⟨gp, op + j, none⟩ = some (.int .i64 ((PP / 2 ^ j % 2 : Nat) : Int)) := by
  obtain ⟨A, c, e, _, hr⟩ := h.pol.slice
  obtain ⟨g', off, e2, _, hc⟩ := hr.2 (by omega)
  subst e2
  exact ⟨g', off, c, e, hc j _ (by simp [ints, bl_get PP 32 j hj])⟩

theorem nt_read' (R q : Nat) (h : q < 32) : nt R / 2 ^ q = 2 * (nt R / 2 ^ (q + 1)) + (1 - R / 2 ^ q % 2) := by
  have := nt_read R (31 - q) (by omega)
  rwa [show 31 - (31 - q) = q by omega, show 32 - (31 - q) = q + 1 by omega] at this
theorem PP_lt : PP < 2 ^ 32 := by unfold PP; decide
theorem s1_mod (V : Nat) : V / 2 ^^^ (V % 2 * PP) % 2 ^ 32 = s1 V := by
  have h1 : V % 2 = 0 ∨ V % 2 = 1 := by omega
  have h2 := PP_lt
  rw [Nat.mod_eq_of_lt (show V % 2 * PP < 2 ^ 32 by rcases h1 with h1 | h1 <;> rw [h1] <;> omega)]
  rfl
theorem pol_mod (b k : Nat) (h : b < 2) : b * (PP / 2 ^ k % 2) % 2 = b * PP / 2 ^ k % 2 := by
  have h1 : b = 0 ∨ b = 1 := by omega
  rcases h1 with rfl | rfl
  · simp
  · rw [Nat.one_mul, Nat.one_mul, Nat.mod_mod]

set_option maxHeartbeats 1000000 in
set_option maxRecDepth 100000 in
theorem refsum_any (A : Option Addr) (n c : Nat) (bs : List Nat) (w : World) (hr : Rd w w.heap.size A n (bys bs)) (hb : ∀ c ∈ bs, c < 256) (hn : n ≤ 1000000000) :
    Calls Tryd.prog 20 #[.slice A n c] w fun e w' => e = .returned (.int .u32 ((nt (crcR (nt 0) bs) : Nat) : Int)) ∧ Below w.heap.size w w' := by
  obtain ⟨i0, hi, hz0, hz1, hz2⟩ := info_parts Tryd.info3
  have hL : Hid (bs.length = n) := Lib.hid (by have := hr.1; rwa [bys_len] at this)
  have hBits : ∀ w : World, Hid (Calls Tryd.prog 31 #[.int .u32 2197175160] w fun e w' => ∃ v, e = .returned v ∧ Buf w' w.heap.size v 32 (ints (bl PP 32)) ∧ Below w.heap.size w w') := fun w => Lib.hid (by
    have := bits_any PP (by unfold PP; decide) w
    rwa [show ((PP : Nat) : Int) = 2197175160 from rfl] at this)
  have hnew : (w.alloc (.cells #[] 3)).ownsRow w.heap.size 3 1 (.slice (some ⟨w.heap.size, 0, none⟩) 0 0) 0 [] := World.ownsRow_lit w #[] 0 (Nat.le_refl _) (by unfold maxLen; omega) rfl
  have hbel : Below w.heap.size w (w.alloc (.cells #[] 3)) := (Below.refl _ _).alloc (Nat.le_refl _) _
  go_enter Tryd.func20, Tryd.ntmps20
  go_wp2_with fail
  go_loopg [3, 4] 32 (fun k vx i wr => ∃ j : Nat, k = 32 - j ∧ j ≤ 32 ∧ i = .int .i64 (j : Int) ∧ Below w.heap.size w wr ∧ wr.ownsRow w.heap.size 3 1 vx j (ints (List.replicate j 1)))
  case atStart =>
    exact ⟨0, rfl, Nat.zero_le _, rfl, hbel, hnew⟩
  case round =>
    obtain ⟨j, hk, hj, rfl, hbw, hX⟩ := hrel
    have hK := Lib.hid hk
    clear hk
    have hbs := hbw.size
    by_cases hlt : j < 32
    · have hlt' : (j : Int) < 32 := by omega
      have hX' : (wr.alloc (.cells #[.int .i64 1] 3)).ownsRow w.heap.size 3 1 u3 j (ints (List.replicate j 1)) := own_keep hX fun k hk => Below.heap_alloc wr _ k (own_lt hX k hk).2
      go_wp2_with (at_builtin; refine wpList_append_own_at _ rfl (.tmp 20) (.tmp 21) 31 rfl w.heap.size 3 i0 (.int .i64 0) 1 8 Tryd.underlying31 hi hz0 hz1 hz2 rfl (by decide) u3 j _ rfl hX' ⟨wr.heap.size, 0, none⟩ 1 1 [.int .i64 1] rfl rfl (cell_one_new _ _ _) (by simp [Value.oneCell']) ?b1 ?b2 ?b3 ?next)
      case b1 => unfold maxLen; omega
      case b2 => omega
      case b3 => simp; omega
      case next =>
        intro v' w' r1 r2 r3 r4
        have hB1 := ((Below.refl w.heap.size wr).alloc hbs (.cells #[.int .i64 1] 3)).grown r2 (by simp; omega) fun k hk => (own_lt hX k hk).1
        have hbw2 := hbw.trans hB1
        clear r2 r3 r4 hX hX' hbw hB1
        go_wp2
        go_roundg (32 - (j + 1))
        case measure => have := hK.out; omega
        case rel =>
          refine ⟨j + 1, rfl, by omega, by go_num, hbw2, ?_⟩
          rw [List.replicate_succ', ints_app]
          simpa [ints] using r1
    · obtain rfl : j = 32 := by omega
      rw [bl_ones] at hX
      go_wp2_with fail
      refine ((hBits wr).out).mono ?_
      rintro e w2 ⟨vp, rfl, hP, hB2⟩
      have hReg : Reg w2 w.heap.size w u3 vp (nt 0) := ⟨own_below hX hB2 fun k hk => (own_lt hX k hk).2, hP.base_le hbs, fun k hk hk' => by
        have h1 := (own_lt hX k hk).2
        have h2 := (hP.lt k hk').1
        omega, hbw.trans (hB2.mono hbs), Nat.le_trans hbs hB2.size⟩
      clear hX hP hB2 hbw
      go_wp2_with fail
      go_loopg [3, 26] n (fun k vx i wr => ∃ j : Nat, k = n - j ∧ j ≤ n ∧ i = .int .i64 (j : Int) ∧ Reg wr w.heap.size w vx vp (crcR (nt 0) (bs.take j)))
      case atStart =>
        exact ⟨0, rfl, Nat.zero_le _, rfl, by simpa [crcR] using hReg⟩
      case round =>
        clear hReg hK hj hlt hbs hnew hbel hBits
        obtain ⟨j, hk, hj, rfl, hReg⟩ := hrel
        have hK := Lib.hid hk
        clear hk
        have hT := hReg.below
        by_cases hlt : j < n
        · have hlt' : (j : Int) < (n : Int) := by omega
          have hR := Lib.hid (crcR_lt (bs.take j) (nt 0) (nt_lt 0 (by omega)) (fun c hc => hb c (List.mem_of_mem_take hc)))
          have hS := Lib.hid (show crcR (nt 0) (bs.take (j + 1)) = sN (crcR (nt 0) (bs.take j) ^^^ bs.getD j 0) 8 by rw [take_snoc bs j (by rw [hL.out]; exact hlt), crcR_snoc, byteStep_s])
          have hC := Lib.hid (getD_lt hb j)
          obtain ⟨gb, ob, ub, rfl, hgb, hub, hcb⟩ := (hr.below hT).at_ (k := j) hlt
          rw [bys_get bs j (by rw [hL.out]; exact hlt)] at hub
          injection hub with hub
          subst hub
          clear hT
          generalize bs.getD j 0 = C at *
          generalize crcR (nt 0) (bs.take j) = R at *
          obtain ⟨g, cap, rfl, hbg, hg, hcap, hcm⟩ := own_open hReg.own (by omega)
          go_wp2_with fail
          go_loopg [7, 8] 8 (fun k cv i wr => ∃ j : Nat, k = 8 - j ∧ j ≤ 8 ∧ i = .int .i64 (j : Int) ∧ cv = .int .u8 ((C / 2 ^ j : Nat) : Int) ∧ Reg wr w.heap.size w (.slice (some ⟨g, 0, none⟩) 32 cap) vp (R ^^^ C % 2 ^ j))
          case atStart =>
            exact ⟨0, rfl, Nat.zero_le _, rfl, by simp, by simpa [Nat.mod_one] using hReg⟩
          case round =>
            obtain ⟨i, hk, hi8, rfl, rfl, hReg2⟩ := hrel
            have hK2 := Lib.hid hk
            clear hk hReg
            by_cases hlt8 : i < 8
            · have hlt8' : (i : Int) < 8 := by omega
              have hcell := hReg2.bit (show i < 32 by omega)
              have hcold := hReg2.cold i
              have hturn := Lib.hid (bl_turn R C (C / 2 ^ i) i (by omega) rfl)
              have hc2 := Lib.hid (show C / 2 ^ i / 2 = C / 2 ^ (i + 1) by rw [Nat.div_div_eq_div_mul, Nat.pow_succ])
              have hCC := hC.out
              have hCi : C / 2 ^ i ≤ C := Nat.div_le_self _ _
              have hx2 : (R ^^^ C % 2 ^ i) / 2 ^ i % 2 < 2 := Nat.mod_lt _ (by decide)
              generalize hx : (R ^^^ C % 2 ^ i) / 2 ^ i % 2 = x at *
              generalize C / 2 ^ i = Ci at *
              have hw1 : IntKind.i64.wrap ((x : Int) + (Ci : Int)) = (x : Int) + (Ci : Int) := by rw [IntWalk.i64_in _ (by omega)]
              have hw2 : IntKind.i64.wrap (((x : Int) + (Ci : Int)) % 2) = ((x : Int) + (Ci : Int)) % 2 := by rw [IntWalk.i64_in _ (by omega)]
              go_wp2_with fail
              go_roundg (8 - (i + 1))
              case measure => have := hK2.out; omega
              case rel =>
                refine ⟨i + 1, rfl, by omega, by go_num, ?_, ?_⟩
                · rw [← hc2.out]; simp
                · exact hReg2.stored ((x + Ci) % 2) hturn.out _ (by simp)
            · obtain rfl : i = 8 := by omega
              have hX0 : R ^^^ C % 2 ^ 8 = R ^^^ C := by rw [Nat.mod_eq_of_lt (show C < 2 ^ 8 from hC.out)]
              rw [hX0] at hReg2
              have hX1 := Lib.hid (xor_lt R C hR.out (Nat.lt_trans hC.out (by decide)))
              clear hX0
              generalize R ^^^ C = X at *
              go_wp2_with fail
              go_loopg [3, 9] 8 (fun k vx i wr => ∃ j : Nat, k = 8 - j ∧ j ≤ 8 ∧ i = .int .i64 (j : Int) ∧ Reg wr w.heap.size w vx vp (sN X j))
              case atStart =>
                exact ⟨0, rfl, Nat.zero_le _, rfl, hReg2⟩
              case round =>
                obtain ⟨i, hk, hi8', rfl, hReg3⟩ := hrel
                have hK3 := Lib.hid hk
                clear hk hReg2
                by_cases hlt9 : i < 8
                · have hlt9' : (i : Int) < 8 := by omega
                  have hV := Lib.hid (sN_lt X i hX1.out)
                  have hVs := Lib.hid (show sN X (i + 1) = s1 (sN X i) from rfl)
                  generalize sN X i = V at *
                  obtain ⟨g2, cap2, rfl, hbg2, hg2, hcap2, hcm2⟩ := own_open hReg3.own (by omega)
                  have hcell := hReg3.bit (show 0 < 32 by omega)
                  rw [Nat.pow_zero, Nat.div_one] at hcell
                  have hA : (wr.alloc (.cells #[] 3)).ownsRow wr.heap.size 3 1 (.slice (some ⟨wr.heap.size, 0, none⟩) 0 0) 0 [] := World.ownsRow_lit wr #[] 0 (Nat.le_refl _) (by unfold maxLen; omega) rfl
                  have hA0 : Below wr.heap.size wr (wr.alloc (.cells #[] 3)) := (Below.refl _ _).alloc (Nat.le_refl _) _
                  have hDl : Hid (((bl V 32).drop 1).length = 31) := Lib.hid (by simp [bl_len])
                  have hDd := Lib.hid (bl_down V hV.out)
                  have hDg : Hid (∀ j, j < 31 → ((bl V 32).drop 1)[j]? = some (V / 2 ^ (1 + j) % 2)) := Lib.hid (fun j hj => by rw [List.getElem?_drop, bl_get V 32 (1 + j) (by omega)])
                  generalize (bl V 32).drop 1 = D at *
                  have hnews : ∀ j u, (ints D)[j]? = some u → (wr.alloc (.cells #[] 3)).cell? ((⟨g2, 1, none⟩ : Addr).add j) = some u := by
                    intro j u hu
                    rw [Addr.add_lit, hA0.cell (by simp only []; omega)]
                    by_cases h31 : j < 31
                    · rw [hReg3.bit (show 1 + j < 32 by omega), ← hu, ints, List.getElem?_map, hDg.out j h31]
                      rfl
                    · rw [List.getElem?_eq_none (by rw [ints_len, hDl.out]; omega)] at hu
                      cases hu
                  go_wp2_with (at_builtin; refine wpList_append_own_at _ rfl (.tmp 54) (.tmp 56) 31 rfl wr.heap.size 3 i0 (.int .i64 0) 1 8 Tryd.underlying31 hi hz0 hz1 hz2 rfl (by decide) _ 0 _ rfl hA ⟨g2, 1, none⟩ 31 _ _ rfl ?a1 hnews (ints_one _) ?a2 ?a3 ?a4 ?next1)
                  case a1 => rw [ints_len, hDl.out]
                  case a2 => unfold maxLen; omega
                  case a3 => omega
                  case a4 => simp
                  case next1 =>
                    intro v1 w1 r1 r2 r3 r4
                    have hB1 := hA0.grown r2 (by simp) fun k hk => (own_lt hA k hk).1
                    have hs1 := hB1.size
                    have r1' : (w1.alloc (.cells #[.int .i64 0] 3)).ownsRow wr.heap.size 3 1 v1 31 (ints D) := own_keep r1 fun k hk => Below.heap_alloc w1 _ k (own_lt r1 k hk).2
                    have hl1 := own_lt r1
                    clear r1 r2 r3 r4 hnews hA hA0
                    go_wp2_with (at_builtin; refine wpList_append_own_at _ rfl (.tmp 57) (.tmp 58) 31 rfl wr.heap.size 3 i0 (.int .i64 0) 1 8 Tryd.underlying31 hi hz0 hz1 hz2 rfl (by decide) v1 _ _ rfl r1' ⟨w1.heap.size, 0, none⟩ 1 1 [.int .i64 0] rfl rfl (cell_one_new _ _ _) (by simp [Value.oneCell']) ?c1 ?c2 ?c3 ?next2)
                    case c1 => unfold maxLen; omega
                    case c2 => omega
                    case c3 => simp; omega
                    case next2 =>
                      intro v2 w2' r1 r2 r3 r4
                      have hB2 := ((hB1.alloc hs1 (.cells #[.int .i64 0] 3))).grown r2 (by simp; omega) fun k hk => (hl1 k hk).1
                      have hl2 := own_lt r1
                      have hs2 := hB2.size
                      have hN : Reg w2' w.heap.size w v2 vp (V / 2) := by
                        refine ⟨?_, hReg3.pol.below hB2 (fun k hk => (hReg3.pol.lt k hk).2), fun k hk hk' => ?_, hReg3.below.trans (hB2.mono hReg3.base_le), Nat.le_trans hReg3.base_le hs2⟩
                        · rw [← hDd.out, ints_app]
                          have hbase := hReg3.base_le
                          refine ⟨r1.1, r1.2.imp id ?_⟩
                          rintro ⟨g', cap', cur, e1, e2, rest⟩
                          exact ⟨g', cap', cur, e1, Nat.le_trans hbase e2, by simpa [ints] using rest⟩
                        · have h1 := (hl2 k hk).1
                          have h2 := (hReg3.pol.lt k hk').2
                          omega
                      clear r1 r2 r3 r4 hB1 hB2 hl1 hl2 hs1 hs2 r1' hReg3 hcell hg2
                      have hE := Lib.hid (s1_mod V)
                      obtain ⟨g3, cap3, rfl, hbg3, hg3, hcap3, hcm3⟩ := own_open hN.own (by omega)
                      have hb2 : V % 2 < 2 := Nat.mod_lt _ (by decide)
                      have hVb : (V : Int) % 2 = ((V % 2 : Nat) : Int) := by omega
                      rw [hVb]
                      clear hVb
                      generalize V % 2 = b at *
                      go_wp2_with fail
                      go_loopg [62] 32 (fun k i wr => ∃ j : Nat, k = 32 - j ∧ j ≤ 32 ∧ i = .int .i64 (j : Int) ∧ Reg wr w.heap.size w (.slice (some ⟨g3, 0, none⟩) 32 cap3) vp (V / 2 ^^^ (b * PP) % 2 ^ j))
                      case atStart =>
                        exact ⟨0, rfl, Nat.zero_le _, rfl, by simpa [Nat.mod_one] using hN⟩
                      case round =>
                        obtain ⟨m, hk, hm32, rfl, hReg4⟩ := hrel
                        have hK4 := Lib.hid hk
                        clear hk hN
                        by_cases hltm : m < 32
                        · have hltm' : (m : Int) < 32 := by omega
                          have hcell := hReg4.bit hltm
                          have hcold := hReg4.cold m
                          obtain ⟨gp, op, cp, rfl, hpc⟩ := hReg4.polbit hltm
                          have hturn := Lib.hid (bl_turn (V / 2) (b * PP) (b * (PP / 2 ^ m % 2)) m hltm (pol_mod b m hb2))
                          have hx2 : (V / 2 ^^^ (b * PP) % 2 ^ m) / 2 ^ m % 2 < 2 := Nat.mod_lt _ (by decide)
                          have hp2 : PP / 2 ^ m % 2 < 2 := Nat.mod_lt _ (by decide)
                          generalize (V / 2 ^^^ (b * PP) % 2 ^ m) / 2 ^ m % 2 = x at *
                          generalize PP / 2 ^ m % 2 = pm at *
                          have hbp : (0 : Int) ≤ (b : Int) * (pm : Int) ∧ (b : Int) * (pm : Int) ≤ 1 := by
                            have h1 : b = 0 ∨ b = 1 := by omega
                            rcases h1 with rfl | rfl <;> simp <;> omega
                          obtain ⟨hbp1, hbp2⟩ := hbp
                          have hw0 : IntKind.i64.wrap ((b : Int) * (pm : Int)) = (b : Int) * (pm : Int) := by rw [IntWalk.i64_in _ (by omega)]
                          have hw1 : IntKind.i64.wrap ((x : Int) + (b : Int) * (pm : Int)) = (x : Int) + (b : Int) * (pm : Int) := by rw [IntWalk.i64_in _ (by omega)]
                          have hw2 : IntKind.i64.wrap (((x : Int) + (b : Int) * (pm : Int)) % 2) = ((x : Int) + (b : Int) * (pm : Int)) % 2 := by rw [IntWalk.i64_in _ (by omega)]
                          go_wp2_with fail
                          go_still_tail 14, (by kernel_rfl)
                          go_wp2
                          go_roundg (32 - (m + 1))
                          case measure => have := hK4.out; omega
                          case rel =>
                            refine ⟨m + 1, rfl, by omega, by go_num, ?_⟩
                            have hfin := hReg4.stored ((x + b * pm) % 2) hturn.out (((x : Int) + (b : Int) * (pm : Int)) % 2) (by simp)
                            exact hfin.drew
                        · obtain rfl : m = 32 := by omega
                          rw [hE.out] at hReg4
                          go_wp2
                          go_roundg (8 - (i + 1))
                          case measure => have := hK3.out; omega
                          case rel =>
                            refine ⟨i + 1, rfl, by omega, by go_num, ?_⟩
                            rw [hVs.out]
                            exact hReg4
                · obtain rfl : i = 8 := by omega
                  rw [← hS.out] at hReg3
                  go_wp2
                  go_roundg (n - (j + 1))
                  case measure => have := hK.out; omega
                  case rel =>
                    exact ⟨j + 1, rfl, by omega, by go_num, hReg3⟩
        · obtain rfl : n = j := by omega
          have hd1 : decide ((n : Int) < (n : Int)) = false := by simp
          rw [List.take_of_length_le (by rw [hL.out]; exact Nat.le_refl _)] at hReg
          have hQ := Lib.hid (nt_lt _ (crcR_lt bs (nt 0) (nt_lt 0 (by omega)) hb))
          generalize hRe : crcR (nt 0) bs = R at *
          have HR := Lib.hid hRe
          clear hRe
          obtain ⟨g, cap, rfl, hbg, hg, hcap, hcm⟩ := own_open hReg.own (by omega)
          have hQ0 : nt R / 2 ^ 32 = 0 := Nat.div_eq_of_lt hQ.out
          go_wp2_with fail
          go_loop [13, 14] (fun nv i => ∃ m : Nat, m ≤ 32 ∧ i = .int .i64 ((m : Int) - 1) ∧ nv = .int .u32 ((nt R / 2 ^ m : Nat) : Int)) (fun _ i => (intOf i + 1).toNat)
          case atStart => exact ⟨32, Nat.le_refl _, rfl, by rw [hQ0]; rfl⟩
          case round =>
            obtain ⟨m, hm, rfl, rfl⟩ := hrel
            clear hQ0
            rcases m with _ | q
            · go_wp2
              go_ret
              exact ⟨by rw [HR.out]; simp, hReg.below⟩
            · have hq : q < 32 := by omega
              have hcell := hReg.bit hq
              have hread := Lib.hid (nt_read' R q hq)
              have hdl : nt R / 2 ^ q < 4294967296 := Nat.lt_of_le_of_lt (Nat.div_le_self _ _) hQ.out
              have hx2 : R / 2 ^ q % 2 < 2 := Nat.mod_lt _ (by decide)
              have hre : nt R / 2 ^ q = 2 * (nt R / 2 ^ (q + 1)) + (1 - R / 2 ^ q % 2) := hread.out
              have hqe : (((q + 1 : Nat) : Int) - 1) = (q : Int) := by omega
              rw [hqe]
              clear hqe
              generalize R / 2 ^ q % 2 = x at *
              generalize nt R / 2 ^ (q + 1) = y at *
              generalize hz : nt R / 2 ^ q = z at *
              have HZ := Lib.hid hz
              clear hz hread
              have hze : (z : Int) = 2 * (y : Int) + (1 - (x : Int)) := by omega
              have HZE := Lib.hid hze
              have hy1 : (y : Int) * 2 ≤ 4294967295 := by omega
              have hw0 : IntKind.i64.wrap (1 - (x : Int)) = 1 - (x : Int) := by rw [IntWalk.i64_in _ (by omega)]
              have hw1 : IntKind.u32.wrap (1 - (x : Int)) = 1 - (x : Int) := by rw [IntWalk.u32_in _ (by omega)]
              have hw2 : IntKind.u32.wrap (2 * (y : Int)) = 2 * (y : Int) := by rw [IntWalk.u32_in _ (by omega)]
              have hw3 : IntKind.u32.wrap (2 * (y : Int) + (1 - (x : Int))) = 2 * (y : Int) + (1 - (x : Int)) := by rw [IntWalk.u32_in _ (by omega)]
              clear hre hze
              go_wp2
              go_round
              case measure => simp [intOf]
              case rel => exact ⟨q, by omega, rfl, by rw [HZ.out, HZE.out]⟩
end Go.Proofs.YtajgmadohhagkaaDoor
