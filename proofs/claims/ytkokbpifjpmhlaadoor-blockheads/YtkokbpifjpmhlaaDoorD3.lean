/- Walks: sha.spread. -/
import Derived.Test.YtkokbpifjpmhlaaDoorD2
import Derived.StillTailTactics
namespace Go.Proofs.YtkokbpifjpmhlaaDoor
set_option linter.unusedSimpArgs false
set_option linter.unusedVariables false
open Go.RowKit

/-- The first j bytes of word i. -/
def prt (bs : List Nat) (i : Nat) : Nat → Nat
  | 0 => 0
  | j + 1 => prt bs i j * 256 + bs.getD (4 * i + j) 0
def be4 (bs : List Nat) (i : Nat) : Int := ((prt bs i 4 : Nat) : Int)
def ws16 (bs : List Nat) : List Int := (List.range 16).map (be4 bs)
def pw (x : Int) : Int := bits .xor .u32 (bits .xor .u32 (rr 128 33554432 x) (rr 262144 16384 x)) (x / 8)
def qw (x : Int) : Int := bits .xor .u32 (bits .xor .u32 (rr 131072 32768 x) (rr 524288 8192 x)) (x / 1024)
/-- The next word. -/
def nw (l : List Int) : Int := (l.getD (l.length - 16) 0 + pw (l.getD (l.length - 15) 0) + l.getD (l.length - 7) 0 + qw (l.getD (l.length - 2) 0)) % 4294967296
def ext (l : List Int) : Nat → List Int
  | 0 => l
  | k + 1 => ext l k ++ [nw (ext l k)]
def spr (bs : List Nat) : List Int := ext (ws16 bs) 48
theorem ws16_len (bs : List Nat) : (ws16 bs).length = 16 := by simp [ws16]
theorem ext_len (l : List Int) (k : Nat) : (ext l k).length = l.length + k := by
  induction k with
  | zero => rfl
  | succ k ih => simp [ext, ih]; omega
theorem prt_lt (bs : List Nat) (hb : ∀ c ∈ bs, c < 256) (i : Nat) : ∀ j, prt bs i j < 256 ^ j
  | 0 => by simp [prt]
  | j + 1 => by
    have := prt_lt bs hb i j
    have := getD_lt hb (4 * i + j)
    unfold prt
    rw [Nat.pow_succ]
    omega
theorem be4_w (bs : List Nat) (hb : ∀ c ∈ bs, c < 256) (i : Nat) : W32 (be4 bs i) := by
  have := prt_lt bs hb i 4
  unfold W32 be4
  omega
theorem nw_w (l : List Int) : W32 (nw l) := by unfold W32 nw; omega
theorem getD_w (l : List Int) (h : ∀ x ∈ l, W32 x) (i : Nat) : W32 (l.getD i 0) := by
  by_cases hi : i < l.length
  · rw [List.getD_eq_getElem?_getD, List.getElem?_eq_getElem hi]; exact h _ (List.getElem_mem hi)
  · rw [List.getD_eq_getElem?_getD, List.getElem?_eq_none (by omega)]; simp [W32]
theorem ws16_w (bs : List Nat) (hb : ∀ c ∈ bs, c < 256) : ∀ x ∈ ws16 bs, W32 x := by
  intro x hx
  simp [ws16] at hx
  obtain ⟨i, _, rfl⟩ := hx
  exact be4_w bs hb i
theorem ext_w (l : List Int) (h : ∀ x ∈ l, W32 x) (k : Nat) : ∀ x ∈ ext l k, W32 x := by
  induction k with
  | zero => exact h
  | succ k ih =>
    intro x hx
    simp [ext] at hx
    rcases hx with hx | rfl
    · exact ih x hx
    · exact nw_w _
theorem spr_w (bs : List Nat) (hb : ∀ c ∈ bs, c < 256) : ∀ x ∈ spr bs, W32 x := ext_w _ (ws16_w bs hb) 48
theorem spr_len (bs : List Nat) : (spr bs).length = 64 := by unfold spr; rw [ext_len, ws16_len]

/-- The array behind i words and j bytes of the next. -/
def P1 (bs : List Nat) (i j : Nat) : List Int := (List.range i).map (be4 bs) ++ ((prt bs i j : Nat) : Int) :: List.replicate (63 - i) 0
def P2 (bs : List Nat) (k : Nat) : List Int := ext (ws16 bs) k ++ List.replicate (48 - k) 0
theorem P1_len (bs : List Nat) (i j : Nat) (hi : i ≤ 63) : (P1 bs i j).length = 64 := by simp [P1]; omega
theorem P2_len (bs : List Nat) (k : Nat) (hk : k ≤ 48) : (P2 bs k).length = 64 := by simp [P2, ext_len, ws16_len]; omega
theorem P1_at (bs : List Nat) (i j : Nat) : (us (P1 bs i j))[i]? = some (.int .u32 ((prt bs i j : Nat) : Int)) := by
  simp [us, P1, List.getElem?_append]
theorem P1_set (bs : List Nat) (i j : Nat) (v : Int) : (us (P1 bs i j)).set i (.int .u32 v) = us ((List.range i).map (be4 bs) ++ v :: List.replicate (63 - i) 0) := by
  unfold us P1
  rw [← List.map_set, List.set_append, if_neg (by simp)]
  simp
theorem P1_next (bs : List Nat) (i : Nat) (hi : i < 16) : P1 bs (i + 1) 0 = P1 bs i 4 := by
  unfold P1
  rw [List.range_succ, List.map_append, show 63 - i = 63 - (i + 1) + 1 by omega, List.replicate_succ]
  simp [be4, prt]
theorem P2_zero (bs : List Nat) : P1 bs 16 0 = P2 bs 0 := by
  unfold P1 P2 ext ws16
  simp [prt]
theorem P2_at (bs : List Nat) (k i : Nat) (hi : i < 16 + k) : (us (P2 bs k))[i]? = some (.int .u32 ((ext (ws16 bs) k).getD i 0)) := by
  have hl : i < (ext (ws16 bs) k).length := by rw [ext_len, ws16_len]; exact hi
  simp [us, P2, List.getElem?_append, hl, List.getD]
theorem P2_there (bs : List Nat) (k : Nat) (hk : k < 48) : (us (P2 bs k))[16 + k]? = some (.int .u32 0) := by
  have hl : (ext (ws16 bs) k).length = 16 + k := by rw [ext_len, ws16_len]
  simp [us, P2, List.getElem?_append, hl, List.getElem?_replicate]; omega
theorem P2_set (bs : List Nat) (k : Nat) (hk : k < 48) : (us (P2 bs k)).set (16 + k) (.int .u32 (nw (ext (ws16 bs) k))) = us (P2 bs (k + 1)) := by
  have hl : (ext (ws16 bs) k).length = 16 + k := by rw [ext_len, ws16_len]
  unfold us P2
  rw [← List.map_set, List.set_append, if_neg (by omega), hl, Nat.sub_self, show 48 - k = 48 - (k + 1) + 1 by omega, List.replicate_succ]
  simp [ext]

theorem or_byte (x c : Nat) (hx : x < 16777216) (hc : c < 256) : bits .or .u32 ((x : Int) * 256) (c : Int) = ((x * 256 + c : Nat) : Int) := by
  rw [bits_join .u32 32 (by decide) wraps_32 8 _ _ (by omega) (by omega) (by omega) (by omega) (by omega) (by omega)]
  omega

def Z64 : Array Value := (us (List.replicate 64 0)).toArray
theorem Tryd.zero45 : (Tryd.prog.info? 45).map (·.zero) = some (some (.agg Z64)) := by kernel_rfl
theorem Tryd.size45 : (Tryd.prog.info? 45).map (·.size) = some 64 := by kernel_rfl

/-- The state of spread. -/
structure SpS (w wr : World) (L : List Int) : Prop where
  res : Blk wr w.heap.size 45 Z64
  arr : Blk wr (w.heap.size + 1) 45 (us L).toArray
  below : Below w.heap.size w wr
theorem SpS.drew {w wr : World} {L : List Int} (h : SpS w wr L) : SpS w wr.drew L := ⟨h.res, h.arr, ⟨h.below.os, h.below.tape, h.below.output, h.below.size, h.below.block⟩⟩
theorem SpS.drewN {w wr : World} {L : List Int} (h : SpS w wr L) (k : Nat) : SpS w (wr.drewN k) L := ⟨h.res, h.arr, ⟨h.below.os, h.below.tape, h.below.output, h.below.size, h.below.block⟩⟩
theorem SpS.set {w wr : World} {L L' : List Int} (h : SpS w wr L) (i : Nat) (v : Value) (e : (us L).set i v = us L') : SpS w (wr.setCell ⟨w.heap.size + 1, i, none⟩ v) L' :=
  ⟨h.res.other _ _ (by simp), by have := h.arr.set i v; rwa [List.setIfInBounds_toArray, e] at this, h.below.setCell (by simp) _⟩
theorem SpS.cell {w wr : World} {L : List Int} (h : SpS w wr L) (i : Nat) (u : Value) (e : (us L)[i]? = some u) : wr.cell? ⟨w.heap.size + 1, i, none⟩ = some u := by
  rw [cell_of_row wr _ _ _ _ _ h.arr]; simpa using e
theorem SpS.cold {w wr : World} {L : List Int} (h : SpS w wr L) (i : Nat) : wr.frozen? ⟨w.heap.size + 1, i, none⟩ = false := frozen_of_row wr _ _ _ _ h.arr

set_option maxHeartbeats 1000000 in
set_option maxRecDepth 100000 in
theorem spread_any (A : Option Addr) (c : Nat) (bs : List Nat) (w : World) (hr : Rd w w.heap.size A 64 (bys bs)) (hb : ∀ c ∈ bs, c < 256) :
    Calls Tryd.prog 37 #[.slice A 64 c] w fun e w' => e = .returned (.agg (us (spr bs)).toArray) ∧ Below w.heap.size w w' := by
  have hl : bs.length = 64 := by have := hr.1; rwa [bys_len] at this
  have HL := Lib.hid hl
  have HB := Lib.hid hb
  clear hl hb
  have hS0 : SpS w ((w.alloc (.cells Z64 45)).alloc (.cells Z64 45)) (P1 bs 0 0) :=
    ⟨heap_alloc2_old w _ _, heap_alloc2_new w _ _, ((Below.refl _ _).alloc (Nat.le_refl _) _).alloc (by simp) _⟩
  go_enter Tryd.func37, Tryd.ntmps37
  go_wp2_with (refine wpList_of_wp rfl fun K hK => wp_alloc_arr 45 rfl Z64 Tryd.zero45 (hK _ _ ?_))
  go_loopg [9] 16 (fun k i wr => ∃ j, k = 16 - j ∧ j ≤ 16 ∧ i = .int .i64 j ∧ SpS w wr (P1 bs j 0))
  case atStart => exact ⟨0, rfl, Nat.zero_le _, rfl, hS0⟩
  case round =>
    clear hS0
    obtain ⟨i, hk, hi, rfl, hS⟩ := hrel
    have hM := Lib.hid hk
    clear hk
    by_cases hlt : i < 16
    · have hlt' : (i : Int) < 16 := by omega
      go_wp2_with fail
      go_loopg [12] 4 (fun k v wr => ∃ j, k = 4 - j ∧ j ≤ 4 ∧ v = .int .i64 j ∧ SpS w wr (P1 bs i j))
      case atStart => exact ⟨0, rfl, Nat.zero_le _, rfl, hS⟩
      case round =>
        clear hS
        obtain ⟨j, hk, hj, rfl, hS⟩ := hrel
        have hM2 := Lib.hid hk
        clear hk
        by_cases hlj : j < 4
        · have hlj' : (j : Int) < 4 := by omega
          obtain ⟨g, off, u, rfl, hgB, hu, hcell⟩ := (hr.below hS.below).at_ (k := 4 * i + j) (by omega)
          rw [bys_get bs _ (by rw [HL.out]; omega)] at hu
          injection hu with hu
          subst hu
          have c1 := hS.cell i _ (P1_at bs i j)
          have c2 := hS.cold i
          have hcb := getD_lt HB.out (4 * i + j)
          have hpl := prt_lt bs HB.out i j
          have hpl : prt bs i j < 16777216 := by
            have : 256 ^ j ≤ 256 ^ 3 := Nat.pow_le_pow_right (by omega) (by omega)
            omega
          have hset := Lib.hid (P1_set bs i j ((prt bs i (j + 1) : Nat) : Int))
          have hps := Lib.hid (show prt bs i (j + 1) = prt bs i j * 256 + bs.getD (4 * i + j) 0 from rfl)
          have hor := or_byte (prt bs i j) (bs.getD (4 * i + j) 0) hpl hcb
          have hw1 : IntKind.i64.wrap (4 * (i : Int)) = 4 * (i : Int) := IntWalk.i64_in _ (by omega)
          have hw2 : IntKind.i64.wrap (4 * (i : Int) + (j : Int)) = 4 * (i : Int) + (j : Int) := IntWalk.i64_in _ (by omega)
          have hn2 : (4 * (i : Int) + (j : Int)).toNat = 4 * i + j := by omega
          have hn1 : 4 * (i : Int) + (j : Int) < 64 := by omega
          have hi64 : (i : Int) < 64 := by omega
          have hn0 : (0 : Int) ≤ 4 * (i : Int) + (j : Int) := by omega
          generalize bs.getD (4 * i + j) 0 = cc at *
          generalize hpp : prt bs i j = pp at *
          have HPP := Lib.hid hpp
          clear hpp
          go_wp2_with fail
          go_still_tail 14, (by kernel_rfl)
          go_wp2
          go_roundg (4 - (j + 1))
          case measure => have := hM2.out; omega
          case rel =>
            refine ⟨j + 1, rfl, by omega, by go_num, ?_⟩
            have := hS.set i (.int .u32 ((prt bs i (j + 1) : Nat) : Int)) hset.out
            rw [hps.out] at this
            have h2 := this.drew
            unfold P1
            rw [hps.out]
            simpa using h2
        · obtain rfl : j = 4 := by omega
          have hdec : decide (((4 : Nat) : Int) < 4) = false := by decide
          rw [← P1_next bs i hlt] at hS
          go_wp2_with fail
          go_roundg (16 - (i + 1))
          case measure => have := hM.out; omega
          case rel => exact ⟨i + 1, rfl, by omega, by go_num, hS⟩
    · obtain rfl : i = 16 := by omega
      have hdec : decide (((16 : Nat) : Int) < 16) = false := by decide
      rw [P2_zero] at hS
      go_wp2_with fail
      go_loopg [6] 48 (fun k v wr => ∃ j, k = 48 - j ∧ j ≤ 48 ∧ v = .int .i64 ((16 + j : Nat) : Int) ∧ SpS w wr (P2 bs j))
      case atStart => exact ⟨0, rfl, Nat.zero_le _, rfl, hS⟩
      case round =>
        clear hS
        obtain ⟨j, hk, hj, rfl, hS⟩ := hrel
        have hM2 := Lib.hid hk
        clear hk hdec
        by_cases hlj : j < 48
        · have hW := ext_w _ (ws16_w bs HB.out) j
          have hlen := Lib.hid (show (ext (ws16 bs) j).length = 16 + j by rw [ext_len, ws16_len])
          have c15 := hS.cell (16 + j - 15) _ (P2_at bs j _ (by omega))
          have c16 := hS.cell (16 + j - 16) _ (P2_at bs j _ (by omega))
          have c7 := hS.cell (16 + j - 7) _ (P2_at bs j _ (by omega))
          have c2 := hS.cell (16 + j - 2) _ (P2_at bs j _ (by omega))
          have c0 := hS.cell (16 + j) _ (P2_there bs j hlj)
          have cf := hS.cold (16 + j)
          have hnw := Lib.hid (show nw (ext (ws16 bs) j) = _ by unfold nw; rw [hlen.out])
          have hset := Lib.hid (P2_set bs j hlj)
          have w15 := Lib.hid (getD_w _ hW (16 + j - 15))
          have w2 := Lib.hid (getD_w _ hW (16 + j - 2))
          clear hW
          obtain ⟨t, ht⟩ : ∃ t, t = 16 + j := ⟨_, rfl⟩
          rw [← ht] at c15 c16 c7 c2 c0 cf ⊢
          have hnw := hnw.out
          have hset := hset.out
          have w15 := w15.out
          have w2 := w2.out
          rw [← ht] at hnw hset w15 w2
          generalize (ext (ws16 bs) j).getD (t - 15) 0 = x15 at *
          generalize (ext (ws16 bs) j).getD (t - 16) 0 = x16 at *
          generalize (ext (ws16 bs) j).getD (t - 7) 0 = x7 at *
          generalize (ext (ws16 bs) j).getD (t - 2) 0 = x2 at *
          have HNW := Lib.hid hnw
          have HSET := Lib.hid hset
          have H15 := Lib.hid w15
          have H2 := Lib.hid w2
          clear hnw hset w15 w2
          have t1 : (t : Int) < 64 := by omega
          have t2 : (16 : Int) ≤ (t : Int) := by omega
          have HT := Lib.hid ht
          clear ht
          have z1 := IntWalk.i64_in ((t : Int) - 15) (by omega)
          have z2 := IntWalk.i64_in ((t : Int) - 2) (by omega)
          have z3 := IntWalk.i64_in ((t : Int) - 16) (by omega)
          have z4 := IntWalk.i64_in ((t : Int) - 7) (by omega)
          have y1 : ((t : Int) - 15).toNat = t - 15 := by omega
          have y2 : ((t : Int) - 2).toNat = t - 2 := by omega
          have y3 : ((t : Int) - 16).toNat = t - 16 := by omega
          have y4 : ((t : Int) - 7).toNat = t - 7 := by omega
          have v1 : (0 : Int) ≤ (t : Int) - 15 := by omega
          have v2 : (0 : Int) ≤ (t : Int) - 2 := by omega
          have v3 : (0 : Int) ≤ (t : Int) - 16 := by omega
          have v4 : (0 : Int) ≤ (t : Int) - 7 := by omega
          have v5 : (t : Int) - 15 < 64 := by omega
          have v6 : (t : Int) - 2 < 64 := by omega
          have v7 : (t : Int) - 16 < 64 := by omega
          have v8 : (t : Int) - 7 < 64 := by omega
          have na15 : (15 : Int) ≤ (t : Int) := by omega
          have nb15 : 15 ≤ t := by omega
          have nc15 : (t : Int) < 79 := by omega
          have nd15 : t < 79 := by omega
          have na2 : (2 : Int) ≤ (t : Int) := by omega
          have nb2 : 2 ≤ t := by omega
          have nc2 : (t : Int) < 66 := by omega
          have nd2 : t < 66 := by omega
          have na7 : (7 : Int) ≤ (t : Int) := by omega
          have nb7 : 7 ≤ t := by omega
          have nc7 : (t : Int) < 71 := by omega
          have nd7 : t < 71 := by omega
          have na16 : (16 : Int) ≤ (t : Int) := by omega
          have nb16 : 16 ≤ t := by omega
          have nc16 : (t : Int) < 80 := by omega
          have nd16 : t < 80 := by omega
          have x15b := H15.out.1
          have x15c := H15.out.2
          have x2b := H2.out.1
          have x2c := H2.out.2
          go_wp2_with fail
          go_quiet ((go_at_call 40; first | (with_reducible exact quiet_same (right7_any _ H15.out _)) | (with_reducible exact quiet_same (right18_any _ H15.out _))))
          have hS2 := hS.drewN nq
          have c16' : (wr.drewN nq).cell? _ = _ := c16
          have c7' : (wr.drewN nq).cell? _ = _ := c7
          have c2' : (wr.drewN nq).cell? _ = _ := c2
          have c0' : (wr.drewN nq).cell? _ = _ := c0
          have cf' : (wr.drewN nq).frozen? _ = _ := cf
          clear c16 c7 c2 c0 cf hS c15
          generalize wr.drewN nq = wr2 at *
          go_wp2_with fail
          go_quiet ((go_at_call 40; first | (with_reducible exact quiet_same (right17_any _ H2.out _)) | (with_reducible exact quiet_same (right19_any _ H2.out _))))
          have hS3 := hS2.drewN nq
          have d16 : (wr2.drewN nq).cell? _ = _ := c16'
          have d7 : (wr2.drewN nq).cell? _ = _ := c7'
          have d0 : (wr2.drewN nq).cell? _ = _ := c0'
          have df : (wr2.drewN nq).frozen? _ = _ := cf'
          clear c16' c7' c2' c0' cf' hS2
          generalize wr2.drewN nq = wr3 at *
          have HNW2 := Lib.hid (show nw (ext (ws16 bs) j) = (x16 + bits BinOp.xor IntKind.u32 (bits BinOp.xor IntKind.u32 (rr 128 33554432 x15) (rr 262144 16384 x15)) (x15 / 8) + x7 + bits BinOp.xor IntKind.u32 (bits BinOp.xor IntKind.u32 (rr 131072 32768 x2) (rr 524288 8192 x2)) (x2 / 1024)) % 4294967296 from HNW.out)
          generalize bits BinOp.xor IntKind.u32 (bits BinOp.xor IntKind.u32 (rr 128 33554432 x15) (rr 262144 16384 x15)) (x15 / 8) = XP at *
          generalize bits BinOp.xor IntKind.u32 (bits BinOp.xor IntKind.u32 (rr 131072 32768 x2) (rr 524288 8192 x2)) (x2 / 1024) = XQ at *
          go_wp2_with fail
          go_still_tail 14, (by kernel_rfl)
          go_wp2
          go_roundg (48 - (j + 1))
          case measure => have := hM2.out; omega
          case rel =>
            refine ⟨j + 1, rfl, by omega, ?_, ?_⟩
            · have := HT.out; simp; omega
            · have := hS3.set t (.int .u32 (nw (ext (ws16 bs) j))) HSET.out
              rw [HNW2.out] at this
              exact this.drew
        · obtain rfl : j = 48 := by omega
          have hdec : decide (((16 + 48 : Nat) : Int) < 64) = false := by decide
          have hfin0 : P2 bs 48 = spr bs := by simp [P2, spr]
          have hPL := P2_len bs 48 (by omega)
          generalize P2 bs 48 = LL at *
          have hfin := Lib.hid hfin0
          clear hfin0
          have HT := Lib.hid hS.res.there
          have HR := Lib.hid hS.arr.range
          have hsz : (us LL).length = 64 := by rw [us_len]; exact hPL
          have HSZ := Lib.hid hsz
          have HTH := Lib.hid (show wr.there w.heap.size 0 (us LL).toArray.size by
            have e : (us LL).toArray.size = 64 := hsz
            rw [e]; exact HT.out)
          clear hsz
          have hbel := hS.below
          go_wp2_with (first
            | (refine wpList_load_mid rfl 45 (.tmp 3) rfl (w.heap.size + 1) 0 rfl (us LL) _ HR.out Tryd.underlying45 rfl (by rw [HSZ.out]; exact Tryd.size45) ?_)
            | (refine wpList_store_mid rfl 45 (.tmp 2) (.tmp 85) rfl w.heap.size 0 (us LL).toArray rfl rfl HTH.out (by rw [show (us LL).toArray.size = 64 from HSZ.out]; exact Tryd.size45) (all_oneCell_toArray (us_one _)) ?_))
          exact bodyPost_ret (results_arr rfl _ _ w.heap.size (us LL) _ rfl (World.rangeAt_setCells_same _ _ _ _ (by simpa using HTH.out)) Tryd.underlying45 rfl (by rw [HSZ.out]; exact Tryd.size45)) rfl ⟨by rw [hfin.out], Below.setCells' hbel _ _ (Nat.le_refl _) _⟩
end Go.Proofs.YtkokbpifjpmhlaaDoor
