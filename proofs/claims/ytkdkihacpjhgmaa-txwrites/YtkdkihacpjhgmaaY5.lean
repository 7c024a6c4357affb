/- Walks: the reader's in, out. -/
import Derived.Test.YtkdkihacpjhgmaaY4
namespace Go.Proofs.Ytkdkihacpjhgmaa
set_option linter.unusedSimpArgs false
set_option linter.unusedVariables false
open Go.RowKit

theorem rN_lt (s : TS) (k : Nat) (hk : k ≤ 8) (hb : B8 s.1) : (rN s k).1 < 256 ^ k := by
  have h1 := M.lv_lt (tk s k).1 (fun c hc => hb c ((tk_sub s k).1 c hc)) (min (tk s k).1.length 8)
  have h2 := tk_le s k
  have h3 : 256 ^ (min (tk s k).1.length 8) ≤ 256 ^ k := Nat.pow_le_pow_right (by decide) (by omega)
  unfold rN
  simp only
  omega
theorem Blk.part_at {g : Nat} {t : TypeId} (post : List Value) : ∀ (vs : List Value) (w : World) (pre mid : List Value), vs.length = mid.length → Blk w g t (pre ++ (mid ++ post)).toArray → Blk (w.setCells g pre.length vs) g t (pre ++ (vs ++ post)).toArray
  | [], w, pre, mid, hl, h => by
    have : mid = [] := List.eq_nil_of_length_eq_zero (by simpa using hl.symm)
    subst this
    exact h
  | v :: r, w, pre, [], hl, h => by simp at hl
  | v :: r, w, pre, m :: mid, hl, h => by
    have h1 := h.set pre.length v
    have e : (pre ++ (m :: mid ++ post)).toArray.setIfInBounds pre.length v = ((pre ++ [v]) ++ (mid ++ post)).toArray := by
      rw [List.setIfInBounds_toArray]
      congr 1
      simp
    rw [e] at h1
    have h2 := Blk.part_at post r _ (pre ++ [v]) mid (by simpa using hl) h1
    rw [List.length_append] at h2
    show Blk ((w.setCell ⟨g, pre.length, none⟩ v).setCells g (pre.length + 1) r) g t _
    simpa using h2
theorem inC_set32 {id : List Nat} {out : Nat} {sc : List Nat} {seq : Nat} {W : Value} (h : id.length = 32) (o : Nat) : (inC id out sc seq W).toArray.setIfInBounds 32 (.int .u32 (o : Int)) = (inC id o sc seq W).toArray := by
  rw [List.setIfInBounds_toArray]
  congr 1
  have hp : (bys id).length = 32 := by rw [bys_len]; exact h
  simp [inC, List.set_append, hp]
theorem inC_set33 {id : List Nat} {out : Nat} {sc : List Nat} {seq : Nat} {W : Value} (h : id.length = 32) (o : List Nat) : (inC id out sc seq W).toArray.setIfInBounds 33 (.string (strB o)) = (inC id out o seq W).toArray := by
  rw [List.setIfInBounds_toArray]
  congr 1
  have hp : (bys id).length = 32 := by rw [bys_len]; exact h
  simp [inC, List.set_append, hp]
theorem inC_set34 {id : List Nat} {out : Nat} {sc : List Nat} {seq : Nat} {W : Value} (h : id.length = 32) (o : Nat) : (inC id out sc seq W).toArray.setIfInBounds 34 (.int .u32 (o : Int)) = (inC id out sc o W).toArray := by
  rw [List.setIfInBounds_toArray]
  congr 1
  have hp : (bys id).length = 32 := by rw [bys_len]; exact h
  simp [inC, List.set_append, hp]
theorem inC_set35 {id : List Nat} {out : Nat} {sc : List Nat} {seq : Nat} {W : Value} (h : id.length = 32) (o : Value) : (inC id out sc seq W).toArray.setIfInBounds 35 o = (inC id out sc seq o).toArray := by
  rw [List.setIfInBounds_toArray]
  congr 1
  have hp : (bys id).length = 32 := by rw [bys_len]; exact h
  simp [inC, List.set_append, hp]
theorem tch_setCells (w : World) (g o : Nat) (vs : List Value) : Tch w (w.setCells g o vs) [g] :=
  ⟨(rest_setCells _ _ _ _).1, (rest_setCells _ _ _ _).2.1, (rest_setCells _ _ _ _).2.2, by rw [size_setCells]; exact Nat.le_refl _, fun k hk hn => heap_setCells _ _ _ _ k (by simpa using hn)⟩

/-- While an input is read: the result's block, the input's own. -/
structure InS (w wi : World) (B g en : Nat) (bs : List Nat) (s : TS) (C : List Value) : Prop where
  rx : Rx wi B g bs en s
  t : Tch w wi [g]
  k1 : Blk wi w.heap.size 58 ZIN.toArray
  k2 : Blk wi (w.heap.size + 1) 58 C.toArray
  gl : g < w.heap.size
section
variable {w wi wj : World} {B g en : Nat} {bs : List Nat} {s s' : TS} {C : List Value}
theorem InS.call (h : InS w wi B g en bs s C) (r : Rx wj B g bs en s') (t : Tch wi wj [g]) : InS w wj B g en bs s' C :=
  ⟨r, h.t.trans t (fun i hi => .inl hi), (t.block _ h.k1.lt (by simp; have := h.gl; omega)).trans h.k1, (t.block _ h.k2.lt (by simp; have := h.gl; omega)).trans h.k2, h.gl⟩
theorem InS.upd (h : InS w wi B g en bs s C) (t : Tch wi wj [w.heap.size + 1]) (D : List Value) (k : Blk wj (w.heap.size + 1) 58 D.toArray) : InS w wj B g en bs s D :=
  ⟨h.rx.tch t (by simp; have := h.gl; omega) (by simp; have := h.rx.lo; have := h.gl; omega), h.t.trans t (by simp), (t.block _ h.k1.lt (by simp)).trans h.k1, k, h.gl⟩
theorem InS.set (h : InS w wi B g en bs s C) (i : Nat) (v : Value) (D : List Value) (e : C.toArray.setIfInBounds i v = D.toArray) : InS w (wi.setCell ⟨w.heap.size + 1, i, none⟩ v) B g en bs s D :=
  h.upd (Tch.of_grown (grown_setCell _ _ _) (by simp)) D (by have := h.k2.set i v; rwa [e] at this)
end

set_option maxHeartbeats 4000000 in
set_option maxRecDepth 100000 in
theorem in_any (w : World) (B g en : Nat) (bs : List Nat) (s : TS) (h : Rx w B g bs en s) :
    Calls Try.prog 42 #[.pointer (some ⟨g, 0, none⟩)] w fun ee w' => ee = .returned (.agg (inC (rIn s).1.id (rIn s).1.out (rIn s).1.sc (rIn s).1.seq (.slice none 0 0)).toArray) ∧ Rx w' B g bs en (rIn s).2 ∧ Tch w w' [g] := by
  have HR : Hid (rIn s = ({ id := (rH s).1, out := (rN (rH s).2 4).1, sc := (rT (rN (rH s).2 4).2).1, seq := (rN (rT (rN (rH s).2 4).2).2 4).1, wit := [] }, (rN (rT (rN (rH s).2 4).2).2 4).2)) := Lib.hid rfl
  generalize rIn s = R at *
  have HHA := Lib.hid (fun W (hW : Rx W B g bs en s) => hash_any W B g en bs s hW)
  have HNU := Lib.hid (fun W u (hW : Rx W B g bs en u) => number_any W B g en bs u hW 4 (by omega))
  have HTX := Lib.hid (fun W u (hW : Rx W B g bs en u) => text_any W B g en bs u hW)
  have HNL := Lib.hid (fun (W : World) u (hW : Rx W B g bs en u) => (show (rN u 4).1 < 256 ^ 4 from rN_lt u 4 (by omega) hW.b8))
  have hidl := rH_len s
  obtain ⟨W1, e1⟩ : ∃ W1, W1 = w.alloc (.cells ZIN.toArray 58) := ⟨_, rfl⟩
  obtain ⟨W2, e2⟩ : ∃ W2, W2 = W1.alloc (.cells ZIN.toArray 58) := ⟨_, rfl⟩
  have b1 : Below w.heap.size w W1 := by rw [e1]; exact (Below.refl _ _).alloc (Nat.le_refl _) _
  have b2 : Below W1.heap.size W1 W2 := by rw [e2]; exact (Below.refl _ _).alloc (Nat.le_refl _) _
  have s1 : W1.heap.size = w.heap.size + 1 := by rw [e1]; simp
  have k1 : Blk W2 w.heap.size 58 ZIN.toArray := by rw [e2]; refine Blk.alloc ?_ _; rw [e1]; exact Blk.new _ _ _
  have k2 : Blk W2 (w.heap.size + 1) 58 ZIN.toArray := by rw [← s1, e2]; exact Blk.new _ _ _
  have b12 : Below w.heap.size w W2 := b1.trans (b2.mono b1.size)
  have H2 : Hid (InS w W2 B g en bs s ZIN) := Lib.hid ⟨h.below b12, Tch.of_below _ b12, k1, k2, h.g_lt⟩
  have hE : W2 = (w.alloc (.cells ZIN.toArray 58)).alloc (.cells ZIN.toArray 58) := by rw [e2, e1]
  have HE2 := Lib.hid hE
  have HIDL := Lib.hid hidl
  clear e1 e2 b1 b2 s1 k1 k2 b12 hE h hidl
  go_enter Try.func42, Try.ntmps42
  go_upto_region 2 with (first | (refine wpList_of_wp rfl fun K hK => wp_alloc_arr 58 rfl ZIN.toArray Try.zeroIn (hK _ _ ?_)))
  rw [← HE2.out]
  go_wp2_with fail
  refine (HHA.out _ H2.out.rx).mono ?_
  rintro ee w3 ⟨rfl, h3, t3⟩
  have H3 := Lib.hid (H2.out.call h3 t3)
  clear h3 t3
  generalize hs3 : (rH s).2 = s3 at *
  generalize hid3 : (rH s).1 = ID at *
  have hTH : w3.there (w.heap.size + 1) 0 (bys ID).toArray.size := by
    have := H3.out.k2.there
    intro j hj
    exact this j (by rw [List.size_toArray, ZIN_len]; rw [List.size_toArray, bys_len, HIDL.out] at hj; omega)
  have HTH := Lib.hid hTH
  have HSA := Lib.hid (show (Try.prog.info? 53).map (·.size) = some (bys ID).toArray.size by rw [List.size_toArray, bys_len, HIDL.out]; exact Try.sizeHash)
  have H4 : Hid (InS w (w3.setCells (w.heap.size + 1) 0 (bys ID)) B g en bs s3 (inC ID 0 [] 0 (.slice none 0 0))) := Lib.hid (by
    refine H3.out.upd (tch_setCells _ _ _ _) _ ?_
    have := Blk.part_at [.int .u32 ((0 : Nat) : Int), .string (strB []), .int .u32 ((0 : Nat) : Int), .slice none 0 0] (bys ID) w3 [] (bys z32) (by rw [bys_len, bys_len, HIDL.out]; rfl) H3.out.k2
    exact this)
  obtain ⟨W4, e4⟩ : ∃ W4, W4 = w3.setCells (w.heap.size + 1) 0 (bys ID) := ⟨_, rfl⟩
  rw [← e4] at H4
  have HE4 := Lib.hid e4
  clear hTH e4 hs3 hid3
  go_upto_region 3 with (first | (refine wpList_store_mid rfl 53 (.tmp 7) (.tmp 5) rfl (w.heap.size + 1) 0 (bys ID).toArray rfl rfl HTH.out HSA.out (all_oneCell_toArray (bys_one _)) ?_))
  rw [← HE4.out]
  go_wp2_with fail
  refine (HNU.out _ _ H4.out.rx).mono ?_
  rintro ee w5 ⟨rfl, h5, t5⟩
  have H5 := Lib.hid (H4.out.call h5 t5)
  have hn5 := HNL.out _ _ H4.out.rx
  clear h5 t5
  generalize hs5 : (rN s3 4).2 = s5 at *
  generalize ho5 : (rN s3 4).1 = O at *
  have ho6 : (O : Int) ≤ 4294967295 := by have : (256 : Nat) ^ 4 = 4294967296 := (by decide); omega
  have c32 := H5.out.k2.cell 32 _ (inC_at HIDL.out).1
  have f32 := H5.out.k2.cold 32
  have H6 := Lib.hid (H5.out.set 32 (.int .u32 (O : Int)) _ (inC_set32 HIDL.out O))
  obtain ⟨W6, e6⟩ : ∃ W6, W6 = w5.setCell ⟨w.heap.size + 1, 32, none⟩ (.int .u32 (O : Int)) := ⟨_, rfl⟩
  rw [← e6] at H6
  have HE6 := Lib.hid e6
  clear e6 hn5 hs5 ho5
  go_upto_region 4 with fail
  rw [← HE6.out]
  clear c32 f32
  go_wp2_with fail
  refine (HTX.out _ _ H6.out.rx).mono ?_
  rintro ee w7 ⟨rfl, h7, t7⟩
  have H7 := Lib.hid (H6.out.call h7 t7)
  clear h7 t7
  generalize hs7 : (rT s5).2 = s7 at *
  generalize hc7 : (rT s5).1 = SC at *
  have c33 := H7.out.k2.cell 33 _ (inC_at HIDL.out).2.1
  have f33 := H7.out.k2.cold 33
  have H8 := Lib.hid (H7.out.set 33 (.string (strB SC)) _ (inC_set33 HIDL.out SC))
  obtain ⟨W8, e8⟩ : ∃ W8, W8 = w7.setCell ⟨w.heap.size + 1, 33, none⟩ (.string (strB SC)) := ⟨_, rfl⟩
  rw [← e8] at H8
  have HE8 := Lib.hid e8
  clear e8 hs7 hc7
  go_upto_region 5 with fail
  rw [← HE8.out]
  clear c33 f33
  go_wp2_with fail
  refine (HNU.out _ _ H8.out.rx).mono ?_
  rintro ee w9 ⟨rfl, h9, t9⟩
  have H9 := Lib.hid (H8.out.call h9 t9)
  have hn9 := HNL.out _ _ H8.out.rx
  clear h9 t9
  generalize hs9 : (rN s7 4).2 = s9 at *
  generalize ho9 : (rN s7 4).1 = Q at *
  have ho10 : (Q : Int) ≤ 4294967295 := by have : (256 : Nat) ^ 4 = 4294967296 := (by decide); omega
  have c34 := H9.out.k2.cell 34 _ (inC_at HIDL.out).2.2.1
  have f34 := H9.out.k2.cold 34
  have H10 := Lib.hid (H9.out.set 34 (.int .u32 (Q : Int)) _ (inC_set34 HIDL.out Q))
  obtain ⟨W10, e10⟩ : ∃ W10, W10 = w9.setCell ⟨w.heap.size + 1, 34, none⟩ (.int .u32 (Q : Int)) := ⟨_, rfl⟩
  rw [← e10] at H10
  have HE10 := Lib.hid e10
  clear e10 hn9 hs9 ho9
  go_upto_region 6 with fail
  rw [← HE10.out]
  clear c34 f34
  have hCL : (inC ID O SC Q (.slice none 0 0)).length = 36 := inC_len HIDL.out
  have hone : ∀ u ∈ inC ID O SC Q (.slice none 0 0), u.oneCell' = true := inC_one
  obtain ⟨C, hC⟩ : ∃ C, C = inC ID O SC Q (.slice none 0 0) := ⟨_, rfl⟩
  rw [← hC] at H10 hCL hone
  have HRG := Lib.hid (show W10.rangeAt (w.heap.size + 1) 0 C from H10.out.k2.range)
  have HTH2 := Lib.hid (show W10.there w.heap.size 0 C.toArray.size by
    have := H10.out.k1.there
    have e1 : ZIN.toArray.size = 36 := by simp [ZIN_len]
    have e2 : C.toArray.size = 36 := by simp [hCL]
    rw [e1] at this
    rw [e2]; exact this)
  have HS1 := Lib.hid (show (Try.prog.info? 58).map (·.size) = some C.length by rw [hCL]; exact Try.sizeIn)
  have HS2 := Lib.hid (show (Try.prog.info? 58).map (·.size) = some C.toArray.size by rw [List.size_toArray, hCL]; exact Try.sizeIn)
  have HFI : Hid (Rx (W10.setCells w.heap.size 0 C) B g bs en s9 ∧ Tch w (W10.setCells w.heap.size 0 C) [g]) := Lib.hid (by
    have tq := tch_setCells W10 w.heap.size 0 C
    refine ⟨H10.out.rx.tch tq (by simp; have := H10.out.gl; omega) (by simp; have := H10.out.rx.lo; have := H10.out.gl; omega), H10.out.t.trans tq (by simp)⟩)
  have HC := Lib.hid hC
  have HONE := Lib.hid (all_oneCell_toArray hone)
  clear hCL hone hC
  go_wp2_with (first
    | (refine wpList_load_mid rfl 58 (.tmp 3) rfl (w.heap.size + 1) 0 rfl C _ HRG.out Try.underlying58 rfl HS1.out ?_)
    | (refine wpList_store_mid rfl 58 (.tmp 2) (.tmp 20) rfl w.heap.size 0 C.toArray rfl rfl HTH2.out HS2.out HONE.out ?_))
  refine bodyPost_ret (results_arr1 rfl _ _ w.heap.size C _ rfl (World.rangeAt_setCells_same _ _ _ _ (by simpa using HTH2.out)) Try.underlying58 rfl HS1.out) rfl ⟨?_, ?_, HFI.out.2⟩
  · rw [HC.out, HR.out]
  · rw [HR.out]; exact HFI.out.1

set_option maxHeartbeats 2000000 in
set_option maxRecDepth 100000 in
theorem out_any (w : World) (B g en : Nat) (bs : List Nat) (s : TS) (h : Rx w B g bs en s) :
    Calls Try.prog 43 #[.pointer (some ⟨g, 0, none⟩)] w fun ee w' => ee = .returned (.agg #[.int .i64 (rOut s).1.coins, .string (strB (rOut s).1.sc)]) ∧ Rx w' B g bs en (rOut s).2 ∧ Tch w w' [g] := by
  have HR : Hid (rOut s = ({ coins := IntKind.i64.wrap ((rN s 8).1 : Int), sc := (rT (rN s 8).2).1 }, (rT (rN s 8).2).2)) := Lib.hid rfl
  generalize rOut s = R at *
  have HNU := Lib.hid (fun W u (hW : Rx W B g bs en u) => number_any W B g en bs u hW 8 (by omega))
  have HTX := Lib.hid (fun W u (hW : Rx W B g bs en u) => text_any W B g en bs u hW)
  obtain ⟨W1, e1⟩ : ∃ W1, W1 = w.alloc (.cells #[.int .i64 0, .string ⟨#[]⟩] 49) := ⟨_, rfl⟩
  obtain ⟨W2, e2⟩ : ∃ W2, W2 = W1.alloc (.cells #[.int .i64 0, .string ⟨#[]⟩] 49) := ⟨_, rfl⟩
  have b1 : Below w.heap.size w W1 := by rw [e1]; exact (Below.refl _ _).alloc (Nat.le_refl _) _
  have b2 : Below W1.heap.size W1 W2 := by rw [e2]; exact (Below.refl _ _).alloc (Nat.le_refl _) _
  have s1 : W1.heap.size = w.heap.size + 1 := by rw [e1]; simp
  have k0 : Bx2 W1 w.heap.size (.int .i64 0) (.string ⟨#[]⟩) := by rw [e1]; exact Bx2.new _ _ _ _
  have k1 : Bx2 W2 w.heap.size (.int .i64 0) (.string ⟨#[]⟩) := k0.keep (b2.block _ (by omega))
  have k2 : Bx2 W2 (w.heap.size + 1) (.int .i64 0) (.string ⟨#[]⟩) := by rw [← s1, e2]; exact Bx2.new _ _ _ _
  have b12 : Below w.heap.size w W2 := b1.trans (b2.mono b1.size)
  have hE : W2 = (w.alloc (.cells #[.int .i64 0, .string ⟨#[]⟩] 49)).alloc (.cells #[.int .i64 0, .string ⟨#[]⟩] 49) := by rw [e2, e1]
  have HE2 := Lib.hid hE
  have HRX := Lib.hid (h.below b12)
  have HT2 := Lib.hid (Tch.of_below [g] b12)
  have HGL := Lib.hid h.g_lt
  have HLO := Lib.hid h.lo
  have HK1 := Lib.hid k1
  have HK2 := Lib.hid k2
  obtain ⟨q, hq⟩ : ∃ q, q = w.heap.size := ⟨_, rfl⟩
  have HQ := Lib.hid hq
  clear e1 e2 b1 b2 s1 k0 k1 k2 b12 hE h hq
  go_enter Try.func43, Try.ntmps43
  go_upto_region 2 with fail
  rw [← HE2.out]
  go_wp2_with fail
  refine (HNU.out _ _ HRX.out).mono ?_
  rintro ee w3 ⟨rfl, h3, t3⟩
  have H3 := Lib.hid h3
  have T3 := Lib.hid (HT2.out.trans t3 (fun i hi => .inl hi))
  have k13 := Lib.hid (HK1.out.keep (t3.block _ HK1.out.lt (by simp; have := HGL.out; omega)))
  have k23 := HK2.out.keep (t3.block _ HK2.out.lt (by simp; have := HGL.out; omega))
  have c0 := k23.c0
  have f0 := k23.cold 0
  have k24 := Lib.hid (k23.set0 (.int .i64 (IntKind.i64.wrap ((rN s 8).1 : Int))))
  have t4 : Tch w3 (w3.setCell ⟨w.heap.size + 1, 0, none⟩ (.int .i64 (IntKind.i64.wrap ((rN s 8).1 : Int)))) [w.heap.size + 1] := Tch.of_grown (grown_setCell _ _ _) (by simp)
  have H4 := Lib.hid (H3.out.tch t4 (by simp; have := HGL.out; omega) (by simp; have := HLO.out; have := HGL.out; omega))
  have T4 := Lib.hid (T3.out.trans t4 (by simp))
  have k14 := Lib.hid (k13.out.keep (t4.block _ k13.out.lt (by simp)))
  obtain ⟨W4, e4⟩ : ∃ W4, W4 = w3.setCell ⟨w.heap.size + 1, 0, none⟩ (.int .i64 (IntKind.i64.wrap ((rN s 8).1 : Int))) := ⟨_, rfl⟩
  rw [← e4] at H4 T4 k14 k24
  have HE4 := Lib.hid e4
  clear h3 t3 t4 e4 k23
  generalize hs3 : (rN s 8).2 = s3 at *
  generalize ho3 : (rN s 8).1 = O at *
  generalize hcv : IntKind.i64.wrap (O : Int) = CV at *
  have HCV := Lib.hid hcv
  go_upto_region 3 with fail
  (try rw [hcv])
  rw [← HE4.out]
  clear c0 f0 hs3 ho3 hcv
  go_wp2_with fail
  refine (HTX.out _ _ H4.out).mono ?_
  rintro ee w5 ⟨rfl, h5, t5⟩
  have k15 := k14.out.keep (t5.block _ k14.out.lt (by simp; have := HGL.out; omega))
  have k25 := k24.out.keep (t5.block _ k24.out.lt (by simp; have := HGL.out; omega))
  have T5 := Lib.hid (T4.out.trans t5 (fun i hi => .inl hi))
  generalize hs5 : (rT s3).2 = s5 at *
  generalize hc5 : (rT s3).1 = SC at *
  have c1 := k25.c1
  have f1 := k25.cold 1
  have k26 := k25.set1 (.string (strB SC))
  have t6 : Tch w5 (w5.setCell ⟨w.heap.size + 1, 1, none⟩ (.string (strB SC))) [w.heap.size + 1] := Tch.of_grown (grown_setCell _ _ _) (by simp)
  have h6 := h5.tch t6 (by simp; have := HGL.out; omega) (by simp; have := HLO.out; have := HGL.out; omega)
  have k16 := k15.keep (t6.block _ k15.lt (by simp))
  obtain ⟨W6, e6⟩ : ∃ W6, W6 = w5.setCell ⟨w.heap.size + 1, 1, none⟩ (.string (strB SC)) := ⟨_, rfl⟩
  rw [← e6] at k26 h6 k16 t6
  have HE6 := Lib.hid e6
  have H6 := Lib.hid h6
  have T6 := Lib.hid (T5.out.trans t6 (by simp))
  have K16 := Lib.hid k16
  have K26 := Lib.hid k26
  clear k15 k25 h5 t5 t6 h6 k16 k26 e6 hs5 hc5
  go_upto_region 4 with fail
  rw [← HE6.out]
  clear c1 f1
  have x0 := K26.out.c0
  have x1 := K26.out.c1
  have y0 := K16.out.c0
  have y1 := K16.out.c1
  have g0 := K16.out.cold 0
  have g1 := K16.out.cold 1
  have HFI : Hid (Rx ((W6.setCell ⟨w.heap.size, 0, none⟩ (.int .i64 CV)).setCell ⟨w.heap.size, 1, none⟩ (.string (strB SC))) B g bs en s5 ∧ Tch w ((W6.setCell ⟨w.heap.size, 0, none⟩ (.int .i64 CV)).setCell ⟨w.heap.size, 1, none⟩ (.string (strB SC))) [g] ∧ Bx2 ((W6.setCell ⟨w.heap.size, 0, none⟩ (.int .i64 CV)).setCell ⟨w.heap.size, 1, none⟩ (.string (strB SC))) w.heap.size (.int .i64 CV) (.string (strB SC))) := Lib.hid (by
    have ta : Tch W6 (W6.setCell ⟨w.heap.size, 0, none⟩ (.int .i64 CV)) [w.heap.size] := Tch.of_grown (grown_setCell _ _ _) (by simp)
    have tb : Tch (W6.setCell ⟨w.heap.size, 0, none⟩ (.int .i64 CV)) ((W6.setCell ⟨w.heap.size, 0, none⟩ (.int .i64 CV)).setCell ⟨w.heap.size, 1, none⟩ (.string (strB SC))) [w.heap.size] := Tch.of_grown (grown_setCell _ _ _) (by simp)
    have tq := ta.trans tb (fun i hi => .inl hi)
    exact ⟨H6.out.tch tq (by simp; have := HGL.out; omega) (by simp; have := HLO.out; have := HGL.out; omega), T6.out.trans tq (by simp), (K16.out.set0 _).set1 _⟩)
  go_wp2
  have z0 := HFI.out.2.2.c0
  have z1 := HFI.out.2.2.c1
  refine bodyPost_ret (v := .agg #[.int .i64 CV, .string (strB SC)]) (by simp [results, Try.results43, go_sem, z0, z1]) rfl ⟨?_, ?_, HFI.out.2.1⟩
  · rw [HR.out]
  · rw [HR.out]; exact HFI.out.1
end Go.Proofs.Ytkdkihacpjhgmaa
