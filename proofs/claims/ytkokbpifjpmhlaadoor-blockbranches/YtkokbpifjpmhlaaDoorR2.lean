/- Walks of the reference: times, over. -/
import Derived.Test.YtkokbpifjpmhlaaDoorR1
namespace Go.Proofs.YtkokbpifjpmhlaaDoor
set_option linter.unusedSimpArgs false
set_option linter.unusedVariables false
open Go.RowKit

theorem Tryd.info31 : (Tryd.prog.info? 31).map (fun i => (i.zero, i.size, i.bytes)) = some (some (.int .u64 0), 1, 8) := by kernel_rfl
theorem make44 {i0 : TypeInfo} (hi : Tryd.prog.info? 31 = some i0) (hz0 : i0.zero = some (.int .u64 0)) (hz1 : i0.size = 1) (hz2 : i0.bytes = 8) (n : Nat) (hc : n ≤ 1000) (nI : Int) (hcI : nI = (n : Int)) (w : World) :
    (Instr.makeSlice 69 (.int .i64 nI) (.int .i64 nI)).run Tryd.prog w = .ok (.slice (some ⟨w.heap.size, 0, none⟩) n n) (w.alloc (.cells (dw (List.replicate n 0)).toArray 31)) := by
  subst hcI
  have := run_makeSlice (P := Tryd.prog) w 69 31 i0 (.int .u64 0) Tryd.underlying69 hi hz0 .i64 .i64 (n : Int) (n : Int) (by omega) (by omega) (by rw [hz1]; omega) (by rw [hz2]; omega) (by omega)
  rw [this, hz1]
  have e : madeCells (Value.int .u64 0).cells (n * 1) = (dw (List.replicate n 0)).toArray := by
    apply Array.toList_inj.1
    show (madeCells #[Value.int .u64 0] (n * 1)).toList = _
    rw [toList_madeCells_one]
    simp [dw]
  simp only [e, Int.toNat_natCast]

set_option maxHeartbeats 1000000 in
set_option maxRecDepth 100000 in
theorem times_any (A B : Option Addr) (n m cA cB : Nat) (a b : List Nat) (w : World) (ha : Rd w w.heap.size A n (dw a)) (hb : Rd w w.heap.size B m (dw b)) (da : L.Dig a) (db : L.Dig b) (hn : n ≤ 100) (hm : m ≤ 100) :
    Calls Tryd.prog 32 #[.slice A n cA, .slice B m cB] w fun e w' => ∃ (g : Nat) (R : List Nat), e = .returned (.slice (some ⟨g, 0, none⟩) (n + m) (n + m)) ∧ Blk w' g 31 (dw R).toArray ∧ R.length = n + m ∧ L.Dig R ∧ L.val R = L.val a * L.val b ∧ Below w.heap.size w w' := by
  obtain ⟨i0, hi, hz0, hz1, hz2⟩ := info_parts Tryd.info31
  have hla : a.length = n := by have := ha.1; rwa [dw_len] at this
  have hlb : b.length = m := by have := hb.1; rwa [dw_len] at this
  have hmk := fun wx => make44 hi hz0 hz1 hz2 (n + m) (by omega) ((n : Int) + (m : Int)) (by omega) wx
  have hO : L.Out (List.replicate (n + m) 0) a b 0 := by rw [← hla, ← hlb]; exact L.Out.start a b
  have bk : Blk (w.alloc (.cells (dw (List.replicate (n + m) 0)).toArray 31)) w.heap.size 31 (dw (List.replicate (n + m) 0)).toArray := Blk.new _ _ _
  have hB : Below w.heap.size w (w.alloc (.cells (dw (List.replicate (n + m) 0)).toArray 31)) := (Below.refl _ _).alloc (Nat.le_refl _) _
  have HLA := Lib.hid hla
  have HLB := Lib.hid hlb
  have HDA := Lib.hid da
  have HDB := Lib.hid db
  clear hla hlb da db hi hz0 hz1 hz2
  go_enter Tryd.func32, Tryd.ntmps32
  go_wp2_with fail
  clear hmk
  go_loopg [20] n (fun k v wr => ∃ i R, k = n - i ∧ i ≤ n ∧ v = .int .i64 i ∧ Below w.heap.size w wr ∧ Blk wr w.heap.size 31 (dw R).toArray ∧ L.Out R a b i)
  case atStart => exact ⟨0, _, rfl, Nat.zero_le _, rfl, hB, bk, hO⟩
  case round =>
    clear hB bk hO
    obtain ⟨i, R0, hk, hi, rfl, hB, bk, hO⟩ := hrel
    have hM := Lib.hid hk
    clear hk
    have HO := Lib.hid hO
    clear hO
    by_cases hlt : i < n
    · have hlt' : (i : Int) < (n : Int) := by omega
      obtain ⟨g, off, u, rfl, hgB, hu, hcell⟩ := (ha.below hB).at_ (k := i) hlt
      rw [dw_get a i (by rw [HLA.out]; exact hlt)] at hu
      injection hu with hu
      subst hu
      have dx := L.getD_dig HDA.out i
      have HI0 := Lib.hid (L.Inn.start HO.out (a.getD i 0))
      have HST := Lib.hid (fun (L' : List Nat) (c : Nat) (h : L.Inn R0 L' i (a.getD i 0) b m c) => HO.out.step (by rw [HLA.out]; exact hlt) (by rw [HLB.out]; exact h))
      generalize a.getD i 0 = x at *
      have hRl := Lib.hid (show R0.length = n + m by rw [HO.out.len, HLA.out, HLB.out])
      go_wp2_with fail
      go_loopg [8, 27] m (fun q cv kv wr => ∃ k c R, q = m - k ∧ k ≤ m ∧ kv = .int .i64 k ∧ cv = .int .u64 ((c : Nat) : Int) ∧ Below w.heap.size w wr ∧ Blk wr w.heap.size 31 (dw R).toArray ∧ L.Inn R0 R i x b k c)
      case atStart => exact ⟨0, 0, R0, rfl, Nat.zero_le _, rfl, rfl, hB, bk, HI0.out⟩
      case round =>
        clear hB bk hcell
        obtain ⟨k, c, R, hk, hkm, rfl, rfl, hB, bk, hI⟩ := hrel
        have hM2 := Lib.hid hk
        clear hk
        have hcar := hI.car
        have HI := Lib.hid hI
        clear hI
        by_cases hlk : k < m
        · have hlk' : (k : Int) < (m : Int) := by omega
          obtain ⟨g2, off2, u2, rfl, hgB2, hu2, hcell2⟩ := (hb.below hB).at_ (k := k) hlk
          rw [dw_get b k (by rw [HLB.out]; exact hlk)] at hu2
          injection hu2 with hu2
          subst hu2
          have dy := L.getD_dig HDB.out k
          have hRl2 : R.length = n + m := by rw [HI.out.len]; exact hRl.out
          have q1 := bk.cell (i + k) _ (dw_get R (i + k) (by omega))
          have q2 := bk.cold (i + k)
          have dz := L.getD_dig HI.out.dig (i + k)
          have HNX := Lib.hid (HI.out.step dx HDB.out (by rw [HLB.out]; exact hlk) (by rw [hRl.out]; omega))
          have HBK := Lib.hid (show (dw R).set (i + k) (.int .u64 (((R.getD (i + k) 0 + x * b.getD k 0 + c) % 65536 : Nat) : Int)) = _ from dw_set R (i + k) _)
          generalize R.getD (i + k) 0 = z at *
          generalize b.getD k 0 = y at *
          have hxy : x * y ≤ 65535 * 65535 := Nat.mul_le_mul (by omega) (by omega)
          have hxy' : ((x : Int) * (y : Int)) = ((x * y : Nat) : Int) := by simp
          generalize x * y = xy at *
          have HXY := Lib.hid hxy'
          have hw0 : (x : Int) * (y : Int) ≤ 18446744073709551615 := by omega
          have hw1 : (0 : Int) ≤ (x : Int) * (y : Int) := by omega
          have b1 : (i : Int) + (k : Int) < (n : Int) + (m : Int) := by omega
          have b2 : ((i : Int) + (k : Int)).toNat = i + k := by omega
          clear hRl2
          go_wp2_with fail
          go_roundg (m - (k + 1))
          case measure => have := hM2.out; omega
          case rel =>
            refine ⟨k + 1, _, _, rfl, by omega, by go_num, ?_, hB.setCell (by simp) _, ?_, HNX.out⟩
            · congr 1
            · have h1 := bk.set (i + k) (.int .u64 (((z + xy + c) % 65536 : Nat) : Int))
              rw [List.setIfInBounds_toArray, HBK.out] at h1
              exact h1
        · obtain rfl : m = k := by omega
          have hdec : decide ((m : Int) < (m : Int)) = false := by simp
          obtain ⟨hO2, hz2⟩ := HST.out R c HI.out
          rw [hz2] at hO2
          rw [show b.length = m from HLB.out] at hO2 hz2
          have hRl2 : R.length = n + m := by rw [HI.out.len]; exact hRl.out
          have q1 := bk.cell (i + m) _ (dw_get R (i + m) (by omega))
          rw [hz2] at q1
          have q2 := bk.cold (i + m)
          have HO2 := Lib.hid hO2
          have HBK := Lib.hid (show (dw R).set (i + m) (.int .u64 ((0 + c : Nat) : Int)) = _ from dw_set R (i + m) _)
          have b1 : (i : Int) + (m : Int) < (n : Int) + (m : Int) := by omega
          have b2 : ((i : Int) + (m : Int)).toNat = i + m := by omega
          clear hz2 hO2 hRl2
          go_wp2_with fail
          go_roundg (n - (i + 1))
          case measure => have := hM.out; omega
          case rel =>
            refine ⟨i + 1, _, rfl, by omega, by go_num, hB.setCell (by simp) _, ?_, HO2.out⟩
            have h1 := bk.set (i + m) (.int .u64 ((0 + c : Nat) : Int))
            rw [List.setIfInBounds_toArray, HBK.out] at h1
            simpa using h1
    · obtain rfl : n = i := by omega
      have hdec : decide ((n : Int) < (n : Int)) = false := by simp
      have HX := Lib.hid (show R0.length = n + m ∧ L.Dig R0 ∧ L.val R0 = L.val a * L.val b from by
        have h1 := HO.out
        rw [← HLA.out] at h1
        exact ⟨by rw [HO.out.len, HLA.out, HLB.out], h1.dig, h1.done⟩)
      go_wp2_with fail
      go_ret
      obtain ⟨x1, x2, x3⟩ := HX.out
      exact ⟨w.heap.size, R0, rfl, bk, x1, x2, x3, hB⟩

set_option maxHeartbeats 1000000 in
set_option maxRecDepth 100000 in
theorem over_any (A B : Option Addr) (n m cA cB : Nat) (a b : List Nat) (w : World) (ha : Rd w w.heap.size A n (dw a)) (hb : Rd w w.heap.size B m (dw b)) (da : L.Dig a) (db : L.Dig b) (hn : n ≤ 100) (hm : m < n) :
    Calls Tryd.prog 34 #[.slice A n cA, .slice B m cB] w fun e w' => e = .returned (.bool (decide (L.val b < L.val a))) ∧ w = w' := by
  have hla : a.length = n := by have := ha.1; rwa [dw_len] at this
  have hlb : b.length = m := by have := hb.1; rwa [dw_len] at this
  have HLA := Lib.hid hla
  have HLB := Lib.hid hlb
  have HDA := Lib.hid da
  have HDB := Lib.hid db
  clear hla hlb da db
  have hmn1 : (m : Int) < (n : Int) := by omega
  have hmn2 : decide ((n : Int) < (m : Int)) = false := by simp; omega
  have hmn3 : decide ((m : Int) < (n : Int)) = true := by simp; omega
  go_enter Tryd.func34, Tryd.ntmps34
  go_wp2_with fail
  go_loopg [6] n (fun k v wr => ∃ i, k = i ∧ i ≤ n ∧ v = .int .i64 ((i : Int) - 1) ∧ w = wr ∧ ∀ j, i ≤ j → a.getD j 0 = b.getD j 0)
  case atStart => exact ⟨n, rfl, Nat.le_refl _, rfl, rfl, fun j hj => by
    rw [List.getD_eq_getElem?_getD, List.getD_eq_getElem?_getD, List.getElem?_eq_none (by rw [HLA.out]; omega), List.getElem?_eq_none (by rw [HLB.out]; omega)]⟩
  case round =>
    obtain ⟨i, hk, hi, rfl, rfl, hj⟩ := hrel
    have hM := Lib.hid hk
    have HJ := Lib.hid hj
    clear hk hj
    by_cases hpos : 0 < i
    · obtain ⟨i', rfl⟩ : ∃ i', i = i' + 1 := ⟨i - 1, by omega⟩
      have e1 : (((i' + 1 : Nat) : Int) - 1) = (i' : Int) := by omega
      rw [e1]
      clear e1
      obtain ⟨g, off, u, rfl, hgB, hu, hcell⟩ := ha.at_ (k := i') (by omega)
      rw [dw_get a i' (by rw [HLA.out]; omega)] at hu
      injection hu with hu
      subst hu
      have i1 : (i' : Int) < (n : Int) := by omega
      have i0 : decide ((0 : Int) ≤ (i' : Int)) = true := by simp
      have hgt := Lib.hid (fun h => L.val_lt i' b a HDB.out HDA.out (fun j hj => (HJ.out j (by omega)).symm) h)
      have hlt := Lib.hid (fun h => L.val_lt i' a b HDA.out HDB.out (fun j hj => HJ.out j (by omega)) h)
      by_cases him : i' < m
      · obtain ⟨g2, off2, u2, rfl, hgB2, hu2, hcell2⟩ := hb.at_ (k := i') him
        rw [dw_get b i' (by rw [HLB.out]; exact him)] at hu2
        injection hu2 with hu2
        subst hu2
        have i2 : (i' : Int) < (m : Int) := by omega
        have HEQ := Lib.hid (show a.getD i' 0 = b.getD i' 0 → ∀ j, i' ≤ j → a.getD j 0 = b.getD j 0 from fun h j hj => by
          by_cases e : j = i'
          · subst e; exact h
          · exact HJ.out j (by omega))
        generalize a.getD i' 0 = x at *
        generalize b.getD i' 0 = y at *
        by_cases hxy : x = y
        · subst hxy
          have hne : (((x : Nat) : Int) != ((x : Nat) : Int)) = false := by simp
          go_wp2_with fail
          go_roundg i'
          case measure => have := hM.out; omega
          case rel => exact ⟨i', rfl, by omega, rfl, rfl, HEQ.out trivial⟩
        · have hne : (((x : Nat) : Int) != ((y : Nat) : Int)) = true := by rw [bne_iff_ne]; omega
          by_cases hl : x < y
          · have hd : decide ((y : Int) < (x : Int)) = false := by simp; omega
            have hv := Lib.hid (hlt.out hl)
            go_wp2_with fail
            go_ret
            exact ⟨by have := hv.out; simp; omega, rfl⟩
          · have hd : decide ((y : Int) < (x : Int)) = true := by simp; omega
            have hv := Lib.hid (hgt.out (by omega))
            go_wp2_with fail
            go_ret
            exact ⟨by have := hv.out; simp; omega, rfl⟩
      · have i2 : decide ((i' : Int) < (m : Int)) = false := by simp; omega
        have hb0 : b.getD i' 0 = 0 := by rw [List.getD_eq_getElem?_getD, List.getElem?_eq_none (by rw [HLB.out]; omega)]; rfl
        rw [hb0] at hgt
        have HEQ := Lib.hid (show a.getD i' 0 = 0 → ∀ j, i' ≤ j → a.getD j 0 = b.getD j 0 from fun h j hj => by
          by_cases e : j = i'
          · subst e; rw [h, hb0]
          · exact HJ.out j (by omega))
        clear hb0
        generalize a.getD i' 0 = x at *
        by_cases hx0 : x = 0
        · subst hx0
          go_wp2_with fail
          go_roundg i'
          case measure => have := hM.out; omega
          case rel => exact ⟨i', rfl, by omega, rfl, rfl, HEQ.out trivial⟩
        · have hne : (((x : Nat) : Int) != 0) = true := by rw [bne_iff_ne]; omega
          have hd : decide ((0 : Int) < (x : Int)) = true := by simp; omega
          have hv := Lib.hid (hgt.out (by omega))
          go_wp2_with fail
          go_ret
          exact ⟨by have := hv.out; simp; omega, rfl⟩
    · obtain rfl : i = 0 := by omega
      have hv := Lib.hid (L.val_congr a b (fun j => HJ.out j (by omega)))
      have hd : decide ((0 : Int) ≤ ((0 : Nat) : Int) - 1) = false := by decide
      go_wp2_with fail
      go_ret
      exact ⟨by have := hv.out; simp; omega, rfl⟩
end Go.Proofs.YtkokbpifjpmhlaaDoor
