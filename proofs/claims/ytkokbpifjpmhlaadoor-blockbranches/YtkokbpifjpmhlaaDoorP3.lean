/- The reference: what stands beside a way. -/
import Derived.Test.YtkokbpifjpmhlaaDoorP2
namespace Go.Proofs.YtkokbpifjpmhlaaDoor
set_option linter.unusedSimpArgs false
set_option linter.unusedVariables false
open Go.RowKit

theorem rowK_pos (hs : List (List Nat)) (h : 0 < hs.length) : ∀ k, 0 < (rowK hs k).length
  | 0 => h
  | k + 1 => by show 0 < (abv (rowK hs k)).length; rw [abv_len]; have := rowK_pos hs h k; omega

theorem RowsAt.turn {w w' : World} {v v' : Value} {vs : List Value} {hs : List (List Nat)} (h : RowsAt w v.ownBlock vs hs) (hg : w.grownBy w' v.ownBlock) (ho : v'.ownBlock = v.ownBlock ∨ ∀ k, v'.ownBlock = some k → w.heap.size ≤ k) : RowsAt w' v'.ownBlock vs hs := by
  intro i x hx
  obtain ⟨A, c, e, hr, hn⟩ := h i x hx
  refine ⟨A, c, e, hr.grown hg hn, fun g off eA h0 e' => ?_⟩
  rcases ho with e1 | e1
  · exact hn g off eA h0 (e'.trans e1)
  · have h1 := e1 g e'.symm
    obtain ⟨g2, off2, e2, hlt, _⟩ := hr.rd.at_ h0
    rw [eA] at e2
    injection e2 with e2
    injection e2 with e2 e3
    omega
theorem oth_odd (n b : Nat) (h : b % 2 = 1) (hb : b < n) : oth n b = b - 1 := by unfold oth; rw [nat_xor1, if_neg (by omega)]; omega
theorem oth_ev (n b : Nat) (h : b % 2 = 0) (hb : b + 1 < n) : oth n b = b + 1 := by unfold oth; rw [nat_xor1, if_pos h]; omega
theorem oth_end (n b : Nat) (h : b % 2 = 0) (hb : b + 1 = n) : oth n b = b := by unfold oth; rw [nat_xor1, if_pos h]; omega

/-- What stands in memory in a round of the reference's Branch. -/
structure RbS (w0 : World) (B : Nat) (wr : World) (s7 vr : Value) (n k j a : Nat) (vs : List Value) (hs : List (List Nat)) : Prop where
  own : wr.ownsRow B 22 32 s7 j (flatH (brs hs a j))
  row : wr.ownsRow B 42 1 vr (k + 1) vs
  ap : ∀ q, vr.ownBlock = some q → s7.ownBlock ≠ some q
  rows : RowsAt wr s7.ownBlock vs hs
  bel : Below B w0 wr
theorem RbS.step {w0 : World} {B : Nat} {wr w3 : World} {s7 v3 vr : Value} {n k j a : Nat} {vs : List Value} {hs : List (List Nat)} (h : RbS w0 B wr s7 vr n k j a vs hs) (hB : B ≤ wr.heap.size) (ho3 : w3.ownsRow B 22 32 v3 (j + 1) (flatH (brs hs a (j + 1)))) (hg : wr.grownBy w3 s7.ownBlock) (ho : v3.ownBlock = s7.ownBlock ∨ ∀ k, v3.ownBlock = some k → wr.heap.size ≤ k) : RbS w0 B w3 v3 vr n k (j + 1) a vs hs := by
  refine ⟨ho3, ownN_keep h.row (fun q hq => hg.block q (h.row.lt q hq).2 (fun e => h.ap q hq e.symm)), fun q hq e => ?_, h.rows.turn hg ho, h.bel.grown hg hB (fun q hq => (h.own.lt q hq).1)⟩
  rcases ho with e1 | e1
  · exact h.ap q hq (e1 ▸ e)
  · have := e1 q e; have := (h.row.lt q hq).2; omega

set_option maxHeartbeats 4000000 in
set_option maxRecDepth 100000 in
theorem refbranch_any (TB : List Int) (eTB : TAB = TB) (A : Option Addr) (n c a : Nat) (hs : List (List Nat)) (w : World) (hr : RH w w.heap.size A n hs) (ha : a < n) (hn : (n : Int) ≤ 100000) :
    Calls Tryd.prog 12 #[.agg (us TB).toArray, .slice A n c, .int .i64 (a : Int)] w fun e w' => ∃ v' k, e = .returned v' ∧ w'.ownsRow w.heap.size 22 32 v' k (flatH (brs hs a k)) ∧ (∀ i, i < k → 1 < (rowK hs i).length) ∧ (rowK hs k).length ≤ 1 ∧ k ≤ n ∧ Below w.heap.size w w' := by
  have HL := Lib.hid hr.len
  have HI := Lib.hid hr.is_
  have HTB := Lib.hid eTB
  have HAT := Lib.hid (rowK_at hs a (by rw [hr.len]; exact ha))
  have tbl : (us TB).length = 72 := by rw [us_len, ← eTB]; decide
  have HZT := Lib.hid (show (Tryd.prog.info? 47).map (·.size) = some (us TB).length by rw [tbl]; exact Tryd.size47)
  have kt0 : Blk ((w.alloc (.cells (us TB).toArray 47)).alloc (.cells #[] 22)) w.heap.size 47 (us TB).toArray := heap_alloc2_old w _ _
  have hB0 : Below w.heap.size w ((w.alloc (.cells (us TB).toArray 47)).alloc (.cells #[] 22)) := ((Below.refl _ _).alloc (Nat.le_refl _) _).alloc (by simp) _
  have hs0 : ((w.alloc (.cells (us TB).toArray 47)).alloc (.cells #[] 22)).heap.size = w.heap.size + 2 := by simp
  have ho0 : ((w.alloc (.cells (us TB).toArray 47)).alloc (.cells #[] 22)).ownsRow w.heap.size 22 32 (.slice (some ⟨w.heap.size + 1, 0, none⟩) 0 0) 0 [] := by
    have := World.ownsRow_lit (base := w.heap.size) (e := 22) (size := 32) (w.alloc (.cells (us TB).toArray 47)) #[] 0 (by simp) (by unfold maxLen; omega) rfl
    simpa using this
  have hr0 := (hr.below hB0).up hB0.size
  have HA0 : Hid (∀ g off, A = some ⟨g, off, none⟩ → 0 < n → g < w.heap.size) := Lib.hid (fun g off e h0 => by
    obtain ⟨g2, off2, e2, hlt, _⟩ := hr.rd.at_ h0
    rw [e] at e2
    injection e2 with e2
    injection e2 with e2 e3
    omega)
  have HRT := Lib.hid kt0.range
  obtain ⟨w0, hw0⟩ : ∃ w0, w0 = (w.alloc (.cells (us TB).toArray 47)).alloc (.cells #[] 22) := ⟨_, rfl⟩
  have HB0 := Lib.hid hB0
  have HS0 := Lib.hid hs0
  have HO0 := Lib.hid ho0
  have HRW := Lib.hid (rows_any2 TB eTB A n c hs w0 (by rw [hw0]; exact hr0) hn)
  rw [← hw0] at HB0 HS0 HO0 HRT
  have HWE := Lib.hid hw0
  clear eTB tbl kt0 hB0 hs0 ho0 hr0 hw0
  go_enter Tryd.func12, Tryd.ntmps12
  go_upto_region 2 with fail
  rw [← HWE.out]
  go_wp2_with (first
    | (refine wpList_load_mid rfl 47 (.tmp 3) rfl w.heap.size 0 rfl (us TB) _ HRT.out Tryd.underlying47 rfl HZT.out ?_))
  refine HRW.out.mono ?_
  rintro e w2 ⟨v2, vs, k, rfl, ho2, hra2, hlt, hle, hkn, hb2, hfr⟩
  have hB2 := HB0.out.trans (hb2.mono HB0.out.size)
  have HLT := Lib.hid hlt
  have HLEK := Lib.hid hle
  have hvl : vs.length = k + 1 := by have := ho2.1; omega
  have S2 : RbS w w.heap.size w2 (.slice (some ⟨w.heap.size + 1, 0, none⟩) 0 0) v2 n k 0 a vs hs := by
    refine ⟨ownN_below HO0.out hb2 (fun q hq => (HO0.out.lt q hq).2), ownN_base ho2 (by have := HS0.out; omega), fun q hq e => ?_, fun i v hv => ?_, hB2⟩
    · have h1 := (ho2.lt q hq).1
      have h2 : w.heap.size + 1 = q := Option.some.inj e
      have := HS0.out
      omega
    · obtain ⟨A1, c1, e, hr1, hn1⟩ := hra2 i v hv
      refine ⟨A1, c1, e, hr1, fun g off eA h0 e' => ?_⟩
      have hg : g = w.heap.size + 1 := Option.some.inj e'
      rcases hfr i v hv with ⟨hi, ev⟩ | hq
      · subst hi
        rw [e] at ev
        injection ev with ev1 ev2 _
        have := HA0.out g off (by rw [← ev1]; exact eA) (by have : (rowK hs 0).length = n := HL.out; omega)
        omega
      · have := hq g (by rw [e, eA]; rfl)
        have := HS0.out
        omega
  have hrow2 := ho2
  obtain ⟨gr, cap, rfl, hgb, hgl, hKc, hcm⟩ := own_open ho2 (by omega)
  have HS2 := Lib.hid S2
  have HVL := Lib.hid hvl
  have hkn' : (k : Int) ≤ 100000 := by omega
  clear S2 ho2 hra2 hlt hle hb2 hfr hB2 hvl hrow2 hgb hgl hKc hcm HRT
  go_upto_region 3 with fail
  go_loopg [2, 7, 16] (k + 1) (fun kk s2 s7 s16 wr => ∃ (j b : Nat), j ≤ k ∧ k + 1 - j ≤ kk ∧ s16 = .int .i64 (j : Int) ∧ s2 = .int .i64 (b : Int) ∧ Hid (b = a / 2 ^ j) ∧ Hid (RbS w w.heap.size wr s7 (.slice (some ⟨gr, 0, none⟩) (k + 1) cap) n k j a vs hs))
  case atStart => exact ⟨0, a, Nat.zero_le _, Nat.le_refl _, rfl, rfl, Lib.hid (by simp), HS2⟩
  case round =>
    obtain ⟨j, b, hjk, hkk, rfl, rfl, HBE, HS⟩ := hrel
    have HX := Lib.hid hkk
    clear hkk
    obtain ⟨u, hu⟩ : ∃ u, vs[j]? = some u := ⟨_, List.getElem?_eq_getElem (by have := HVL.out; omega)⟩
    obtain ⟨A1, c1, rfl, hr1, hn1⟩ := HS.out.rows j u hu
    obtain ⟨L, hLe⟩ : ∃ L, L = (rowK hs j).length := ⟨_, rfl⟩
    rw [← hLe] at hr1 hn1
    have hcell : wr.cell? ⟨gr, j, none⟩ = some (.slice A1 L c1) := by
      have := HS.out.row.cellAt j (by omega)
      rw [this, hu, hLe]
    have HLe := Lib.hid hLe
    have hbL : b < L := by rw [HBE.out, hLe]; exact HAT.out j
    have hj1 : (j : Int) < (k : Int) + 1 := by omega
    have hsz : w.heap.size ≤ wr.heap.size := HS.out.bel.size
    clear hu hLe
    by_cases h1 : 1 < L
    · have hjk2 : j < k := by
        rcases Nat.lt_or_eq_of_le hjk with h | h
        · exact h
        · subst h; have := HLEK.out; have := HLe.out; omega
      have hLn : L ≤ n := by
        have := HLe.out
        have h2 : ∀ i, (rowK hs i).length ≤ n := fun i => by
          induction i with
          | zero => exact Nat.le_of_eq HL.out
          | succ i ih => show (abv (rowK hs i)).length ≤ n; rw [abv_len]; have := rowK_pos hs (by rw [HL.out]; omega) i; omega
        have := h2 j
        omega
      have hLz : ((L : Int) == 1) = false := by simp; omega
      have hLn2 : (L : Int) ≤ 100000 := by omega
      have hol := oth_lt L b (by omega)
      obtain ⟨g, off, rfl, hg, hx1⟩ := hr1.elem (oth L b) hol
      have HYI := Lib.hid (hr1.isAt (oth L b) hol)
      have HBR : Hid (brs hs a (j + 1) = brs hs a j ++ [(rowK hs j).getD (oth L b) []]) := Lib.hid (by rw [brs, HBE.out, HLe.out])
      obtain ⟨y, hy⟩ : ∃ y, oth L b = y := ⟨_, rfl⟩
      rw [hy] at hol hx1 HYI HBR
      have HY := Lib.hid hy
      generalize (rowK hs j).getD y [] = Y at *
      have HX1 := Lib.hid hx1
      have HSY := Lib.hid (sizeB Y HYI.out)
      obtain ⟨v3, w3, hrun, ho3, hg3, hown3⟩ := app_b32 wr w.heap.size u7 j (brs hs a j) HS.out.own Y HYI.out (by omega) hsz
      rw [← HBR.out] at ho3
      have HRUN := Lib.hid hrun
      have HS3 := Lib.hid (HS.out.step hsz ho3 hg3 hown3)
      have hb2i : (b : Int) / 2 = ((b / 2 : Nat) : Int) := by omega
      obtain ⟨b2, hb2⟩ : ∃ b2, b2 = b / 2 := ⟨_, rfl⟩
      rw [← hb2] at hb2i
      have HBE2 : Hid (b2 = a / 2 ^ (j + 1)) := Lib.hid (by rw [hb2, HBE.out, Nat.pow_succ, Nat.div_div_eq_div_mul])
      clear hx1 hrun ho3 hg3 hown3 hn1 hr1 hy hb2
      obtain ⟨r2, hr2⟩ : ∃ r2, r2 = b % 2 := ⟨_, rfl⟩
      have hr2i : (b : Int) % 2 = (r2 : Int) := by omega
      have HR2 := Lib.hid hr2
      clear hr2
      by_cases hodd : r2 = 1
      · have hyb : (b : Int) - 1 = (y : Int) := by have := HY.out; rw [oth_odd L b (by have := HR2.out; omega) hbL] at this; have := HR2.out; omega
        have hyL : (y : Int) < (L : Int) := by omega
        have hyL2 : ¬ (L : Int) ≤ (y : Int) := by omega
        subst hodd
        go_upto_region 11 with fail
        go_wp2_with (first
          | (refine wpList_load_mid rfl 22 (.tmp 38) rfl g (off + y * 32) rfl (bys Y) _ HX1.out Tryd.underlying22 rfl HSY.out ?_)
          | (refine arm_build1 42 (.tmp 39) (v' := ?_) (w' := ?_) ?hr ?_; case hr => exact lit_b32 wr Y HYI.out #[(0, .agg (bys Y).toArray)] rfl)
          | (refine arm_append 42 (.tmp 35) (.tmp 40) (v' := ?_) (w' := ?_) ?hr2 ?_; case hr2 => exact HRUN.out))
        go_roundg (k + 1 - (j + 1))
        case measure => have := HX.out; omega
        case rel => exact ⟨j + 1, b2, by omega, Nat.le_refl _, by go_num, rfl, HBE2, HS3⟩
      · have hr0 : r2 = 0 := by have := HR2.out; omega
        subst hr0
        by_cases hend : b + 1 = L
        · have hyb : y = b := by have := HY.out; rw [oth_end L b (by have := HR2.out; omega) hend] at this; exact this.symm
          subst hyb
          have hbi : (y : Int) + 1 = (L : Int) := by omega
          have hyL : (y : Int) < (L : Int) := by omega
          go_upto_region 11 with fail
          go_wp2_with (first
            | (refine wpList_load_mid rfl 22 (.tmp 38) rfl g (off + y * 32) rfl (bys Y) _ HX1.out Tryd.underlying22 rfl HSY.out ?_)
            | (refine arm_build1 42 (.tmp 39) (v' := ?_) (w' := ?_) ?hr ?_; case hr => exact lit_b32 wr Y HYI.out #[(0, .agg (bys Y).toArray)] rfl)
            | (refine arm_append 42 (.tmp 35) (.tmp 40) (v' := ?_) (w' := ?_) ?hr2 ?_; case hr2 => exact HRUN.out))
          go_roundg (k + 1 - (j + 1))
          case measure => have := HX.out; omega
          case rel => exact ⟨j + 1, b2, by omega, Nat.le_refl _, by go_num, rfl, HBE2, HS3⟩
        · have hyb : (b : Int) + 1 = (y : Int) := by have := HY.out; rw [oth_ev L b (by have := HR2.out; omega) (by omega)] at this; omega
          have hyL : (y : Int) < (L : Int) := by omega
          have hyL2 : ¬ (L : Int) ≤ (y : Int) := by omega
          clear hend
          go_upto_region 11 with fail
          go_wp2_with (first
            | (refine wpList_load_mid rfl 22 (.tmp 38) rfl g (off + y * 32) rfl (bys Y) _ HX1.out Tryd.underlying22 rfl HSY.out ?_)
            | (refine arm_build1 42 (.tmp 39) (v' := ?_) (w' := ?_) ?hr ?_; case hr => exact lit_b32 wr Y HYI.out #[(0, .agg (bys Y).toArray)] rfl)
            | (refine arm_append 42 (.tmp 35) (.tmp 40) (v' := ?_) (w' := ?_) ?hr2 ?_; case hr2 => exact HRUN.out))
          go_roundg (k + 1 - (j + 1))
          case measure => have := HX.out; omega
          case rel => exact ⟨j + 1, b2, by omega, Nat.le_refl _, by go_num, rfl, HBE2, HS3⟩
    · have hL1 : L = 1 := by omega
      have hjk2 : j = k := by
        rcases Nat.lt_or_eq_of_le hjk with h | h
        · have := HLT.out j h; have := HLe.out; omega
        · exact h
      have HJK := Lib.hid hjk2
      subst hL1
      clear h1 hjk2
      go_wp2
      go_ret
      have hk := HJK.out
      subst hk
      exact ⟨_, j, rfl, HS.out.own, HLT.out, HLEK.out, hkn, HS.out.bel⟩
end Go.Proofs.YtkokbpifjpmhlaaDoor
