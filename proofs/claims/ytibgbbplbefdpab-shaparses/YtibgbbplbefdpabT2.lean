/- Walks: strings.IndexByte at the digits; sha.Parse. -/
import Derived.Test.YtibgbbplbefdpabT1
import Derived.Lib.Bytealg
import Derived.Laws.Externs
import Derived.Deep.WholeRow
import Derived.Test.YtibgbbplbefdpabArr
import Derived.Laws.ResultCell
namespace Go.Proofs.Ytibgbbplbefdpab
set_option linter.unusedSimpArgs false
set_option linter.unusedVariables false
open Go.RowKit

def DG : ByteArray := ⟨#[48, 49, 50, 51, 52, 53, 54, 55, 56, 57, 97, 98, 99, 100, 101, 102]⟩
/-- The worth of a sign; -1: none. -/
def dv (c : Nat) : Int := if 48 ≤ c ∧ c ≤ 57 then (c : Int) - 48 else if 97 ≤ c ∧ c ≤ 102 then (c : Int) - 87 else -1
theorem dv_idx (c : Nat) (h : c < 256) : Lib.indexByte DG.data.toList (c : Int).toNat.toUInt8 = dv c := by
  have : ∀ k : Fin 256, Lib.indexByte DG.data.toList (k.val : Int).toNat.toUInt8 = dv k.val := by decide +kernel
  exact this ⟨c, h⟩

set_option maxHeartbeats 1000000 in
set_option maxRecDepth 100000 in
theorem idx9_any (s : ByteArray) (c : Int) (w : World) :
    Calls Try.prog 9 #[.string s, .int .u8 c] w fun e w' => e = .returned (.int .i64 (Lib.indexByte s.data.toList c.toNat.toUInt8)) ∧ w = w' := by
  go_enter Try.func9, Try.ntmps9
  go_wp2
  rw [run_callFunc_extern Try.func10 (by kernel_rfl) (by kernel_rfl) (by kernel_rfl) (e := Extern.BytealgIndexByte.indexByte) (by kernel_rfl), Lib.run_indexByteString]
  simp only [Result.andThen]
  rw [Oper.upon_value]
  go_wp2
  go_ret
  exact ⟨rfl, rfl⟩

set_option maxHeartbeats 1000000 in
set_option maxRecDepth 100000 in
theorem idx_any (c : Nat) (h : c < 256) (w : World) :
    Calls Try.prog 8 #[.string ⟨#[48, 49, 50, 51, 52, 53, 54, 55, 56, 57, 97, 98, 99, 100, 101, 102]⟩, .int .u8 (c : Int)] w fun e w' => e = .returned (.int .i64 (dv c)) ∧ w = w' := by
  go_enter Try.func8, Try.ntmps8
  go_wp2_with fail
  refine (idx9_any _ _ _).mono ?_
  rintro e w' ⟨rfl, rfl⟩
  have HD := Lib.hid (dv_idx c h)
  go_wp2_with fail
  go_ret
  exact ⟨by rw [← HD.out]; rfl, rfl⟩

theorem strB_at (bs : List Nat) (hb : ∀ c ∈ bs, c < 256) (k : Nat) (h : k < (strB bs).size) : ((strB bs)[k]'h).toNat = bs.getD k 0 := by
  have h' : k < bs.length := by rw [strB_size] at h; exact h
  have e : (strB bs)[k]'h = UInt8.ofNat bs[k] := by
    show (strB bs).data[k]'_ = _
    simp [strB]
  rw [e, UInt8.toNat_ofNat', List.getD_eq_getElem?_getD, List.getElem?_eq_getElem h']
  exact Nat.mod_eq_of_lt (hb _ (List.getElem_mem h'))

/-- What the first j signs make. -/
def pv (bs : List Nat) (k : Nat) : Nat := (dv (bs.getD (2 * k) 0)).toNat * 16 + (dv (bs.getD (2 * k + 1) 0)).toNat
def pTo (bs : List Nat) (j : Nat) : List Nat := List.replicate (32 - j) 0 ++ ((List.range j).map (pv bs)).reverse

def Zs : List Nat := List.replicate 32 0
def ZH : Array Value := (bys Zs).toArray
theorem Try.zero23 : (Try.prog.info? 23).map (·.zero) = some (some (.agg ZH)) := by kernel_rfl
theorem Try.size23 : (Try.prog.info? 23).map (·.size) = some 32 := by kernel_rfl
theorem Try.size5 : (Try.prog.info? 5).map (·.size) = some 1 := by kernel_rfl
theorem ZH_size : ZH.size = 32 := by kernel_rfl
theorem pTo_zero (bs : List Nat) : (bys (pTo bs 0)).toArray = ZH := by simp [pTo, ZH, Zs]
theorem pTo_len (bs : List Nat) (j : Nat) (hj : j ≤ 32) : (pTo bs j).length = 32 := by simp [pTo]; omega
theorem pTo_at (bs : List Nat) (j : Nat) (hj : j < 32) : (bys (pTo bs j))[31 - j]? = some (.int .u8 0) := by
  simp [bys, pTo, List.getElem?_append, List.getElem?_replicate, show 31 - j < 32 - j by omega]
theorem pTo_set (bs : List Nat) (j : Nat) (hj : j < 32) : (bys (pTo bs j)).set (31 - j) (.int .u8 ((pv bs j : Nat) : Int)) = bys (pTo bs (j + 1)) := by
  unfold bys pTo
  rw [← List.map_set, List.set_append, if_pos (by simp; omega), List.range_succ, List.map_append (f := pv bs), List.reverse_append]
  have e : List.replicate (32 - j) 0 = List.replicate (32 - (j + 1)) 0 ++ [0] := by
    rw [show 32 - j = 32 - (j + 1) + 1 by omega, List.replicate_succ']
  rw [e, List.set_append, if_neg (by simp)]
  simp
theorem dv_lt (c : Nat) : dv c < 16 := by unfold dv; split; · omega
                                          split <;> omega
theorem or16 (h l : Nat) (hh : h < 16) (hl : l < 16) : bits BinOp.or IntKind.i64 ((h : Int) * 16) (l : Int) = ((h * 16 + l : Nat) : Int) := by
  have : ∀ a b : Fin 16, bits BinOp.or IntKind.i64 ((a.val : Int) * 16) (b.val : Int) = ((a.val * 16 + b.val : Nat) : Int) := by decide +kernel
  exact this ⟨h, hh⟩ ⟨l, hl⟩

set_option maxHeartbeats 1000000 in
set_option maxRecDepth 100000 in
theorem parse_short (bs : List Nat) (h : bs.length ≠ 64) (hl : bs.length ≤ 1000000) (w : World) :
    Calls Try.prog 6 #[.string (strB bs)] w fun e w' => e = .returned (.tuple #[.agg ZH, .int .i64 2]) ∧ Below w.heap.size w w' := by
  have hs : (((strB bs).size : Int) != 64) = true := by rw [strB_size, bne_iff_ne]; omega
  have hB1 : Blk ((w.alloc (.cells ZH 23)).alloc (.cells ZH 23)) w.heap.size 23 ZH := heap_alloc2_old w _ _
  have HT := Lib.hid (Blk.there hB1)
  clear hB1
  have hbel : Below w.heap.size w ((w.alloc (.cells ZH 23)).alloc (.cells ZH 23)) := ((Below.refl _ _).alloc (Nat.le_refl _) _).alloc (by simp) _
  go_enter Try.func6, Try.ntmps6
  go_wp2_with (first
    | (refine wpList_of_wp rfl fun K hK => wp_alloc_arr 23 rfl ZH Try.zero23 (hK _ _ ?_))
    | (refine wpList_store_mid rfl 23 (.tmp 2) (.tmp 11) rfl w.heap.size 0 ZH rfl rfl HT.out (by rw [ZH_size]; exact Try.size23) (by kernel_rfl) ?_))
  exact bodyPost_ret (results_arr_tmp rfl _ _ w.heap.size ZH.toList _ rfl (World.rangeAt_setCells_same _ _ _ _ HT.out) Try.underlying23 rfl Try.size23) rfl ⟨rfl, Below.setCells' hbel _ _ (Nat.le_refl _) _⟩

/-- The loop's state behind j signs. -/
structure PSt (bs : List Nat) (w wr : World) (j : Nat) : Prop where
  res : Blk wr w.heap.size 23 ZH
  arr : Blk wr (w.heap.size + 1) 23 (bys (pTo bs j)).toArray
  below : Below w.heap.size w wr

set_option maxHeartbeats 1000000 in
set_option maxRecDepth 100000 in
theorem parse_any (bs : List Nat) (h : bs.length = 64) (hb : ∀ c ∈ bs, c < 256) (n : Nat) (hn : n ≤ 32) (hok : ∀ k, k < n → 0 ≤ dv (bs.getD (2 * k) 0) ∧ 0 ≤ dv (bs.getD (2 * k + 1) 0)) (hst : n < 32 → dv (bs.getD (2 * n) 0) < 0 ∨ dv (bs.getD (2 * n + 1) 0) < 0) (w : World) :
    Calls Try.prog 6 #[.string (strB bs)] w fun e w' => e = .returned (if n < 32 then .tuple #[.agg ZH, .int .i64 2] else .tuple #[.agg (bys (pTo bs 32)).toArray, .int .i64 0]) ∧ Below w.heap.size w w' := by
  have HH := Lib.hid h
  have hs : (((strB bs).size : Int) != 64) = false := by rw [strB_size, h]; rfl
  have hs2 : (strB bs).size = 64 := by rw [strB_size, h]
  have HB := Lib.hid hb
  have HK := Lib.hid hok
  have HS := Lib.hid hst
  clear h hb hok hst
  have hP0 : PSt bs w ((w.alloc (.cells ZH 23)).alloc (.cells ZH 23)) 0 :=
    ⟨heap_alloc2_old w _ _, by rw [pTo_zero]; exact heap_alloc2_new w _ _, ((Below.refl _ _).alloc (Nat.le_refl _) _).alloc (by simp) _⟩
  go_enter Try.func6, Try.ntmps6
  go_wp2_with (refine wpList_of_wp rfl fun K hK => wp_alloc_arr 23 rfl ZH Try.zero23 (hK _ _ ?_))
  go_loopg [12] 32 (fun k i wr => ∃ j, k = 32 - j ∧ j ≤ n ∧ i = .int .i64 j ∧ PSt bs w wr j)
  case atStart => exact ⟨0, rfl, Nat.zero_le _, rfl, hP0⟩
  case round =>
    clear hP0
    obtain ⟨j, hk, hj, rfl, hP⟩ := hrel
    have hM := Lib.hid hk
    clear hk
    by_cases hlt : j < 32
    · have hlt' : (j : Int) < 32 := by omega
      have i1 : (0 : Int) ≤ 2 * (j : Int) := by omega
      have i2 : 2 * (j : Int) < 64 := by omega
      have i3 : 2 * (j : Int) + 1 < 64 := by omega
      have b1 := getD_lt HB.out (2 * j)
      have b2 := getD_lt HB.out (2 * j + 1)
      have d1 := dv_lt (bs.getD (2 * j) 0)
      have d2 := dv_lt (bs.getD (2 * j + 1) 0)
      have hcell : wr.cell? ⟨w.heap.size + 1, 31 - j, none⟩ = some (.int .u8 0) := by
        rw [cell_of_row wr _ _ _ _ _ hP.arr]; simpa using pTo_at bs j hlt
      have hfz : wr.frozen? ⟨w.heap.size + 1, 31 - j, none⟩ = false := frozen_of_row wr _ _ _ _ hP.arr
      have hset := Lib.hid (pTo_set bs j hlt)
      have hpv := Lib.hid (show pv bs j = (dv (bs.getD (2 * j) 0)).toNat * 16 + (dv (bs.getD (2 * j + 1) 0)).toNat from rfl)
      by_cases hjn : j < n
      · obtain ⟨n1, n2⟩ := HK.out j hjn
        obtain ⟨x1, e1⟩ := Int.eq_ofNat_of_zero_le n1
        obtain ⟨x2, e2⟩ := Int.eq_ofNat_of_zero_le n2
        have hpv2 := Lib.hid (show pv bs j = x1 * 16 + x2 by rw [hpv.out, e1, e2]; rfl)
        have E1 := Lib.hid e1
        have E2 := Lib.hid e2
        rw [e1] at d1
        rw [e2] at d2
        clear e1 e2 n1 n2
        have hor := or16 x1 x2 (by omega) (by omega)
        have hdn1 : decide ((x1 : Int) < 0) = false := by simp
        have hdn2 : decide ((x2 : Int) < 0) = false := by simp
        go_wp2_with fail
        rw [strB_at bs HB.out (2 * j)]
        refine (idx_any _ b1 _).mono ?_
        rintro e w' ⟨rfl, rfl⟩
        rw [E1.out]
        go_wp2_with fail
        rw [strB_at bs HB.out (2 * j + 1)]
        refine (idx_any _ b2 _).mono ?_
        rintro e w' ⟨rfl, rfl⟩
        rw [E2.out]
        go_wp2_with fail
        go_roundg (32 - (j + 1))
        case measure => have := hM.out; omega
        case rel =>
          refine ⟨j + 1, rfl, by omega, by go_num, hP.res.other _ _ (by simp), ?_, hP.below.setCell (by simp) _⟩
          have := hP.arr.set (31 - j) (.int .u8 ((pv bs j : Nat) : Int))
          rw [List.setIfInBounds_toArray, hset.out, hpv2.out] at this
          have e3 : ((x1 * 16 + x2 : Nat) : Int) % 256 = ((x1 * 16 + x2 : Nat) : Int) := by omega
          simpa [e3] using this
      · obtain rfl : n = j := by omega
        have hst := HS.out hlt
        have HT := Lib.hid hP.res.there
        obtain ⟨y1, E1⟩ : ∃ y, Hid (dv (bs.getD (2 * n) 0) = y) := ⟨_, Lib.hid rfl⟩
        obtain ⟨y2, E2⟩ : ∃ y, Hid (dv (bs.getD (2 * n + 1) 0) = y) := ⟨_, Lib.hid rfl⟩
        rw [E1.out, E2.out] at hst
        rw [E1.out] at d1
        rw [E2.out] at d2
        by_cases hneg : y1 < 0
        · have hdn1 : decide (y1 < 0) = true := by simpa using hneg
          clear hst
          go_wp2_with fail
          rw [strB_at bs HB.out (2 * n)]
          refine (idx_any _ b1 _).mono ?_
          rintro e w' ⟨rfl, rfl⟩
          rw [E1.out]
          go_wp2_with fail
          rw [strB_at bs HB.out (2 * n + 1)]
          refine (idx_any _ b2 _).mono ?_
          rintro e w' ⟨rfl, rfl⟩
          rw [E2.out]
          go_wp2_with (refine wpList_store_mid rfl 23 (.tmp 2) (.tmp 32) rfl w.heap.size 0 ZH rfl rfl HT.out (by rw [ZH_size]; exact Try.size23) (by kernel_rfl) ?_)
          exact bodyPost_ret (results_arr_tmp rfl _ _ w.heap.size ZH.toList _ rfl (World.rangeAt_setCells_same _ _ _ _ HT.out) Try.underlying23 rfl Try.size23) rfl ⟨rfl, Below.setCells' hP.below _ _ (Nat.le_refl _) _⟩
        · have hdn1 : decide (y1 < 0) = false := by simpa using hneg
          have hneg2 : y2 < 0 := by omega
          have hdn2 : decide (y2 < 0) = true := by simpa using hneg2
          clear hst
          go_wp2_with fail
          rw [strB_at bs HB.out (2 * n)]
          refine (idx_any _ b1 _).mono ?_
          rintro e w' ⟨rfl, rfl⟩
          rw [E1.out]
          go_wp2_with fail
          rw [strB_at bs HB.out (2 * n + 1)]
          refine (idx_any _ b2 _).mono ?_
          rintro e w' ⟨rfl, rfl⟩
          rw [E2.out]
          go_wp2_with (refine wpList_store_mid rfl 23 (.tmp 2) (.tmp 32) rfl w.heap.size 0 ZH rfl rfl HT.out (by rw [ZH_size]; exact Try.size23) (by kernel_rfl) ?_)
          exact bodyPost_ret (results_arr_tmp rfl _ _ w.heap.size ZH.toList _ rfl (World.rangeAt_setCells_same _ _ _ _ HT.out) Try.underlying23 rfl Try.size23) rfl ⟨rfl, Below.setCells' hP.below _ _ (Nat.le_refl _) _⟩
    · obtain rfl : j = 32 := by omega
      obtain rfl : n = 32 := by omega
      have hdec : decide (((32 : Nat) : Int) < 32) = false := by decide
      have HT := Lib.hid hP.res.there
      have HR := Lib.hid hP.arr.range
      have hsz : (bys (pTo bs 32)).length = 32 := by rw [bys_len, pTo_len bs 32 (by omega)]
      have hth : wr.there w.heap.size 0 (bys (pTo bs 32)).toArray.size := by
        have e : (bys (pTo bs 32)).toArray.size = 32 := hsz
        have := HT.out; rw [ZH_size] at this; rwa [e]
      have HTH := Lib.hid hth
      have HSZ := Lib.hid hsz
      clear hth hsz
      go_wp2_with (first
        | (refine wpList_load_mid rfl 23 (.tmp 4) rfl (w.heap.size + 1) 0 rfl (bys (pTo bs 32)) _ HR.out Try.underlying23 rfl (by rw [HSZ.out]; exact Try.size23) ?_)
        | (refine wpList_store_mid rfl 23 (.tmp 2) (.tmp 42) rfl w.heap.size 0 (bys (pTo bs 32)).toArray rfl rfl HTH.out (by rw [show (bys (pTo bs 32)).toArray.size = 32 from HSZ.out]; exact Try.size23) (all_oneCell_toArray (bys_one _)) ?_))
      exact bodyPost_ret (results_arr_tmp rfl _ _ w.heap.size (bys (pTo bs 32)) _ rfl (World.rangeAt_setCells_same _ _ _ _ (by simpa using HTH.out)) Try.underlying23 rfl (by rw [HSZ.out]; exact Try.size23)) rfl ⟨rfl, Below.setCells' hP.below _ _ (Nat.le_refl _) _⟩
end Go.Proofs.Ytibgbbplbefdpab
