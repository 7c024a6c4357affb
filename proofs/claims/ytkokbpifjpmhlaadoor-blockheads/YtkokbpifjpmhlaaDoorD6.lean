/- Walks: hash, lastChunks. -/
import Derived.Test.YtkokbpifjpmhlaaDoorD5
namespace Go.Proofs.YtkokbpifjpmhlaaDoor
set_option linter.unusedSimpArgs false
set_option linter.unusedVariables false
open Go.RowKit

/-- Byte j (the highest first) of word x. -/
def wb (x : Int) (j : Nat) : Nat := (x / 2 ^ (8 * (3 - j)) % 256).toNat
def hsh (s : List Int) : List Nat := (List.range 32).map fun i => wb (s.getD (i / 4) 0) (i % 4)
def hTo (s : List Int) (k : Nat) : List Nat := (List.range 32).map fun i => if i < k then wb (s.getD (i / 4) 0) (i % 4) else 0
theorem hTo_len (s : List Int) (k : Nat) : (hTo s k).length = 32 := by simp [hTo]
theorem hTo_all (s : List Int) : hTo s 32 = hsh s := by
  unfold hTo hsh
  apply List.map_congr_left
  intro i hi
  rw [if_pos (by simpa using hi)]
theorem hTo_at (s : List Int) (k : Nat) (hk : k < 32) : (bys (hTo s k))[k]? = some (.int .u8 0) := by
  rw [bys_get _ _ (by rw [hTo_len]; exact hk)]
  simp [hTo, List.getD, hk]
theorem hTo_set (s : List Int) (k : Nat) (hk : k < 32) : (bys (hTo s k)).set k (.int .u8 ((wb (s.getD (k / 4) 0) (k % 4) : Nat) : Int)) = bys (hTo s (k + 1)) := by
  unfold bys
  rw [← List.map_set (f := fun (c : Nat) => Value.int .u8 (c : Int))]
  congr 1
  apply List.ext_getElem (by simp [hTo])
  intro i h1 h2
  rw [List.getElem_set]
  by_cases e : k = i
  · subst e; simp [hTo]
  · rw [if_neg e]
    simp only [hTo, List.getElem_map, List.getElem_range]
    have : (i < k + 1) = (i < k) := by rw [eq_iff_iff]; omega
    simp [this]
theorem wb_cast (x : Int) (j : Nat) : ((wb x j : Nat) : Int) = x / 2 ^ (8 * (3 - j)) % 256 := by unfold wb; omega
theorem wb_lt (x : Int) (j : Nat) : wb x j < 256 := by unfold wb; omega
theorem hsh_lt (s : List Int) : ∀ c ∈ hsh s, c < 256 := by
  intro c hc
  simp [hsh] at hc
  obtain ⟨i, _, rfl⟩ := hc
  exact wb_lt _ _
theorem hsh_len (s : List Int) : (hsh s).length = 32 := by simp [hsh]

def Zs : List Nat := List.replicate 32 0
def ZH : Array Value := (bys Zs).toArray
theorem Tryd.zero23 : (Tryd.prog.info? 23).map (·.zero) = some (some (.agg ZH)) := by kernel_rfl
theorem Tryd.size23 : (Tryd.prog.info? 23).map (·.size) = some 32 := by kernel_rfl
theorem Tryd.info24 : (Tryd.prog.info? 24).map (fun i => (i.zero, i.size, i.bytes)) = some (some (.int .u32 0), 1, 4) := by kernel_rfl
theorem ZH_size : ZH.size = 32 := by kernel_rfl
theorem hTo_zero (s : List Int) : (bys (hTo s 0)).toArray = ZH := by simp [hTo, ZH, Zs]; rfl

structure HSt (w wr : World) (s : List Int) (k : Nat) : Prop where
  res : Blk wr (w.heap.size + 1) 23 ZH
  arr : Blk wr (w.heap.size + 1 + 1) 23 (bys (hTo s k)).toArray
  below : Below w.heap.size w wr

set_option maxHeartbeats 1000000 in
set_option maxRecDepth 100000 in
theorem hash_any (s : List Int) (hs : s.length = 8) (hw : ∀ x ∈ s, W32 x) (w : World) :
    Calls Tryd.prog 29 #[.agg (us s).toArray] w fun e w' => e = .returned (.agg (bys (hsh s)).toArray) ∧ Below w.heap.size w w' := by
  obtain ⟨i27, hi27, hz27, hs27, hb27⟩ := info_parts Tryd.info24
  have hsz : (us s).length = 8 := by rw [us_len, hs]
  have HSZ := Lib.hid hsz
  have HS := Lib.hid hs
  have HW := Lib.hid hw
  have e1 : ((w.alloc (.cells (us s).toArray 63)).alloc (.cells ZH 23)).heap.size = w.heap.size + 1 + 1 := by simp
  have hH : HSt w (((w.alloc (.cells (us s).toArray 63)).alloc (.cells ZH 23)).alloc (.cells ZH 23)) s 0 := by
    refine ⟨Blk.alloc (heap_alloc2_new w _ _) _, ?_, (((Below.refl _ _).alloc (Nat.le_refl _) _).alloc (by simp) _).alloc (by simp; omega) _⟩
    rw [hTo_zero, ← e1]
    exact Blk.new _ _ _
  have HR := Lib.hid (show (((w.alloc (.cells (us s).toArray 63)).alloc (.cells ZH 23)).alloc (.cells ZH 23)).rangeAt w.heap.size 0 (us s) from Blk.range (Blk.alloc (heap_alloc2_old w _ _) _))
  clear e1 hsz hs hw
  go_enter Tryd.func29, Tryd.ntmps29
  go_wp2_with (first
    | (refine wpList_of_wp rfl fun K hK => wp_alloc_arr 23 rfl ZH Tryd.zero23 (hK _ _ ?_); (try simp only [World.size_alloc]))
    | (refine wpList_load_mid rfl 63 (.tmp 1) rfl w.heap.size 0 rfl (us s) _ HR.out Tryd.underlying63 rfl (by rw [HSZ.out]; exact Tryd.size63) ?_))
  go_loopg [8] 8 (fun k v wr => ∃ i, k = 8 - i ∧ i ≤ 8 ∧ v = .int .i64 i ∧ HSt w wr s (4 * i))
  case atStart => exact ⟨0, rfl, Nat.zero_le _, rfl, hH⟩
  case round =>
    clear hH
    obtain ⟨i, hk, hi, rfl, hH⟩ := hrel
    have hM := Lib.hid hk
    clear hk
    by_cases hlt : i < 8
    · have hlt' : (i : Int) < 8 := by omega
      have hix : (us s)[i]? = some (.int .u32 (s.getD i 0)) := us_get s i (by rw [HS.out]; exact hlt)
      have hxw := getD_w s HW.out i
      have hixw := fun wx => run_index_arr (P := Tryd.prog) wx 63 24 8 i27 .u32 Tryd.underlying63 Tryd.underlying24 hi27 hs27 (us s) i hlt _ hix .i64 (i : Int) rfl
      obtain ⟨xi, EX⟩ : ∃ x, Hid (s.getD i 0 = x) := ⟨_, Lib.hid rfl⟩
      rw [EX.out] at hixw hxw
      have HIX := Lib.hid hix
      clear hix
      go_wp2_with fail
      clear hixw
      go_loopg [12] 4 (fun k v wr => ∃ j, k = 4 - j ∧ j ≤ 4 ∧ v = .int .i64 j ∧ HSt w wr s (4 * i + j))
      case atStart => exact ⟨0, rfl, Nat.zero_le _, rfl, hH⟩
      case round =>
        clear hH
        obtain ⟨j, hk, hj, rfl, hH⟩ := hrel
        have hM2 := Lib.hid hk
        clear hk
        by_cases hlj : j < 4
        · have hlj' : (j : Int) < 4 := by omega
          have c1 := hH.arr.cell (4 * i + j) _ (hTo_at s (4 * i + j) (by omega))
          have c2 := hH.arr.cold (4 * i + j)
          have hset := Lib.hid (hTo_set s (4 * i + j) (by omega))
          have hwb := Lib.hid (show ((wb (s.getD ((4 * i + j) / 4) 0) ((4 * i + j) % 4) : Nat) : Int) = xi / 2 ^ (8 * (3 - j)) % 256 by
            rw [show (4 * i + j) / 4 = i by omega, show (4 * i + j) % 4 = j by omega, EX.out, wb_cast])
          have b1 : (0 : Int) ≤ 8 * (3 - (j : Int)) := by omega
          have b2 : 8 * (3 - (j : Int)) ≤ 32 := by omega
          have b3 : 4 * (i : Int) + (j : Int) < 32 := by omega
          have b4 : (0 : Int) ≤ 4 * (i : Int) + (j : Int) := by omega
          have b5 : (4 * (i : Int) + (j : Int)).toNat = 4 * i + j := by omega
          have b6 : (8 * (3 - (j : Int))).toNat = 8 * (3 - j) := by omega
          have hx0 := hxw.1
          have hx1 := hxw.2
          go_wp2_with fail
          go_roundg (4 - (j + 1))
          case measure => have := hM2.out; omega
          case rel =>
            refine ⟨j + 1, rfl, by omega, by go_num, hH.res.other _ _ (by simp), ?_, hH.below.setCell (by simp; omega) _⟩
            have h1 := hH.arr.set (4 * i + j) (.int .u8 ((wb (s.getD ((4 * i + j) / 4) 0) ((4 * i + j) % 4) : Nat) : Int))
            rw [List.setIfInBounds_toArray, hset.out, hwb.out] at h1
            exact h1
        · obtain rfl : j = 4 := by omega
          have hdec : decide (((4 : Nat) : Int) < 4) = false := by decide
          go_wp2_with fail
          go_roundg (8 - (i + 1))
          case measure => have := hM.out; omega
          case rel => exact ⟨i + 1, rfl, by omega, by go_num, hH⟩
    · obtain rfl : i = 8 := by omega
      have hdec : decide (((8 : Nat) : Int) < 8) = false := by decide
      have hal := hTo_len s (4 * 8)
      have hcm : hTo s (4 * 8) = hsh s := hTo_all s
      have hres := hH.res
      have harr := hH.arr
      have hbel := hH.below
      clear hH
      generalize hTo s (4 * 8) = LL at *
      have hsz : (bys LL).length = 32 := by rw [bys_len]; exact hal
      have HSZ2 := Lib.hid hsz
      have HR2 := Lib.hid harr.range
      have HTH := Lib.hid (show wr.there (w.heap.size + 1) 0 (bys LL).toArray.size by
        have := hres.there
        rw [show (bys LL).toArray.size = 32 from hsz]; exact this)
      have HCM := Lib.hid hcm
      clear hsz hal hcm
      go_wp2_with (first
        | (refine wpList_load_mid rfl 23 (.tmp 3) rfl (w.heap.size + 1 + 1) 0 rfl (bys LL) _ HR2.out Tryd.underlying23 rfl (by rw [HSZ2.out]; exact Tryd.size23) ?_)
        | (refine wpList_store_mid rfl 23 (.tmp 2) (.tmp 28) rfl (w.heap.size + 1) 0 (bys LL).toArray rfl rfl HTH.out (by rw [show (bys LL).toArray.size = 32 from HSZ2.out]; exact Tryd.size23) (all_oneCell_toArray (bys_one _)) ?_))
      exact bodyPost_ret (results_arr rfl _ _ (w.heap.size + 1) (bys LL) _ rfl (World.rangeAt_setCells_same _ _ _ _ (by simpa using HTH.out)) Tryd.underlying23 rfl (by rw [HSZ2.out]; exact Tryd.size23)) rfl ⟨by rw [HCM.out], Below.setCells' hbel _ _ (by omega) _⟩
end Go.Proofs.YtkokbpifjpmhlaaDoor
