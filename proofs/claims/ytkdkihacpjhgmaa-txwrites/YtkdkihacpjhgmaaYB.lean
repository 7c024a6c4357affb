/- Walks: readerOf, Decode. -/
import Derived.Test.YtkdkihacpjhgmaaYA
namespace Go.Proofs.Ytkdkihacpjhgmaa
set_option linter.unusedSimpArgs false
set_option linter.unusedVariables false
open Go.RowKit

set_option maxHeartbeats 2000000 in
set_option maxRecDepth 100000 in
theorem readerOf_any (w : World) (A : Option Addr) (n c : Nat) (bs : List Nat) (hr : Rd w w.heap.size A n (bys bs)) (hb : B8 bs) (hn : (n : Int) ≤ 1000000) (hnc : n ≤ c) (hcm : (c : Int) ≤ 9223372036854775807) :
    Calls Try.prog 26 #[.slice A n c] w fun ee w' => ee = .returned (.pointer (some ⟨w.heap.size, 0, none⟩)) ∧ Rx w' w.heap.size w.heap.size (bs.take 65536) (ends bs) (bs.take 65536, 0) ∧ Below w.heap.size w w' := by
  obtain ⟨i0, hi, hz0, hz1, hz2⟩ := info_parts Try.info5
  have hbl : bs.length = n := by have := hr.1; rwa [bys_len] at this
  have HEN : Hid (ends bs = if 65536 < bs.length then 2 else 8) := Lib.hid rfl
  have key : ∀ (m : Nat) (e : Nat) (W : World), bs.take 65536 = bs.take m → m ≤ n → (e = 2 ∨ e = 8) → ends bs = e → W = w.alloc (.cells #[.slice A m c, .int .i64 0, .int .i64 (e : Int), .int .i64 0] 74) →
      Rx W w.heap.size w.heap.size (bs.take 65536) (ends bs) (bs.take 65536, 0) ∧ Below w.heap.size w W := by
    intro m e W hm hmn he hee hW
    have hB : Below w.heap.size w W := by rw [hW]; exact (Below.refl _ _).alloc (Nat.le_refl _) _
    have hx : Bx4 W w.heap.size (.slice A m c) (.int .i64 0) (.int .i64 (e : Int)) (.int .i64 0) := by rw [hW]; exact Bx4.new _ _ _ _ _ _
    have hl : (bs.take m).length = m := by rw [List.length_take]; omega
    rw [hm, hee]
    refine ⟨⟨⟨A, c, ?_, ?_, by rw [hl]; omega, hcm⟩, ?_, Nat.le_refl _, hb.take m, Nat.le_refl _, by rw [hl]; omega, he, .inl rfl⟩, hB⟩
    · have e2 : told e 0 = 0 := by unfold told; rw [if_neg (by decide)]
      simp only
      rw [hl, Nat.sub_self, e2]
      exact hx
    · rw [hl, bys_take]
      exact (hr.below hB).take m hmn
    · simp
  have HKEY := Lib.hid key
  have hsl := fun wx : World => run_slice_h (P := Try.prog) wx 27 5 i0 Try.underlying27 hi hz1 A n c 65536
  by_cases h : 65536 < n
  · have h' : (65536 : Int) < (n : Int) := by omega
    have hc1 : (65536 : Int) ≤ (c : Int) := by omega
    have HE : Hid (ends bs = 2) := Lib.hid (by rw [HEN.out, if_pos (by omega)])
    have hsx := fun wx : World => hsl wx (by omega) .i64 65536 rfl
    have HT : Hid (65536 ≤ n) := Lib.hid (by omega)
    clear hr hbl h key hsl
    go_enter Try.func26, Try.ntmps26
    go_wp2
    go_ret
    exact ⟨rfl, HKEY.out 65536 2 _ rfl HT.out (.inl rfl) HE.out rfl⟩
  · have h' : ¬ (65536 : Int) < (n : Int) := by omega
    have HE : Hid (ends bs = 8) := Lib.hid (by rw [HEN.out, if_neg (by omega)])
    have HT : Hid (bs.take 65536 = bs.take n ∧ n ≤ n) := Lib.hid ⟨by rw [List.take_of_length_le (by omega), List.take_of_length_le (by omega)], Nat.le_refl _⟩
    clear hr hbl h key hsl
    go_enter Try.func26, Try.ntmps26
    go_wp2
    go_ret
    exact ⟨rfl, HKEY.out n 8 _ HT.out.1 HT.out.2 (.inr rfl) HE.out rfl⟩

/-- What Decode tells, and leaves. -/
def DecPost (w : World) (bs : List Nat) (e : Ending) (w' : World) : Prop :=
  ∃ t : MTx, e = .returned (.tuple #[t.val, .int .i64 ((dec bs).2.1 : Int), .int .i64 ((dec bs).2.2 : Int)]) ∧ t.p = (dec bs).1 ∧ TxAt w' w'.heap.size t ∧ Below w.heap.size w w'
def nilM : MTx := { ver := 0, ins := [], ia := none, ic := 0, outs := [], oa := none, oc := 0, lock := 0 }
theorem nilM_at (w : World) : TxAt w w.heap.size nilM :=
  ⟨RdN.nil _ _ _ _, RdN.nil _ _ _ _, by simp [nilM], by simp [nilM], by decide, by decide, by decide, by decide, by decide, by decide, by decide⟩
theorem Bx4.stored {w : World} {g : Nat} {a b c d : Value} (h : Bx4 w g a b c d) (a' b' c' d' : Value) :
    Bx4 ((((w.setCell ⟨g, 0, none⟩ a').setCell ⟨g, 1, none⟩ b').setCell ⟨g, 2, none⟩ c').setCell ⟨g, 3, none⟩ d') g a' b' c' d' := by
  have h0 : Bx4 (w.setCell ⟨g, 0, none⟩ a') g a' b c d :=
    ⟨World.cell?_setCell_same _ _ _ h.c0, (set_other w _ 0 1 _ (by decide)).trans h.c1, (set_other w _ 0 2 _ (by decide)).trans h.c2, (set_other w _ 0 3 _ (by decide)).trans h.c3, fun o => (World.frozen?_setCell _ _ _ _).trans (h.cold o)⟩
  exact ((h0.set1 b').set2 c').set3 d'
theorem tch_stored (w : World) (g : Nat) (a' b' c' d' : Value) : Tch w ((((w.setCell ⟨g, 0, none⟩ a').setCell ⟨g, 1, none⟩ b').setCell ⟨g, 2, none⟩ c').setCell ⟨g, 3, none⟩ d') [g] := by
  have tt : ∀ (X : World) (i : Nat) (v : Value), Tch X (X.setCell ⟨g, i, none⟩ v) [g] := fun X i v => Tch.of_grown (grown_setCell _ _ _) (by simp)
  exact (((tt w 0 a').trans (tt _ 1 b') (fun i hi => .inl hi)).trans (tt _ 2 c') (fun i hi => .inl hi)).trans (tt _ 3 d') (fun i hi => .inl hi)

theorem TxAt.drew {w : World} {B : Nat} {t : MTx} (h : TxAt w B t) : TxAt w.drew B t :=
  ⟨h.ins.drew, h.outs.drew, fun x hx => ⟨(h.iat x hx).wit.drew, (h.iat x hx).ok, (h.iat x hx).wl, (h.iat x hx).wc⟩, h.ook, h.v0, h.v1, h.lock, h.il, h.ic, h.ol, h.oc⟩
/-- Behind the reading: the result's block, the transaction's own, the reader. -/
structure DS (w W : World) (g g6 : Nat) (sl : Value) (at' en E : Int) (t : MTx) : Prop where
  res : Bx4 W w.heap.size (.int .i32 0) (.slice none 0 0) (.slice none 0 0) (.int .u32 0)
  own : Bx4 W g6 (.int .i32 t.ver) (.slice t.ia t.ins.length t.ic) (.slice t.oa t.outs.length t.oc) (.int .u32 (t.lock : Int))
  rd : Bx4 W g sl (.int .i64 at') (.int .i64 en) (.int .i64 E)
  tx : ∀ W', W.heap.size ≤ W'.heap.size → (∀ k, w.heap.size < k → k < W.heap.size → W'.heap[k]? = W.heap[k]?) → TxAt W' W'.heap.size t
  bel : Below w.heap.size w W
  gl : w.heap.size < g
  g6l : g < g6
theorem DS.below {w W W' : World} {g g6 : Nat} {sl : Value} {at' en E : Int} {t : MTx} (h : DS w W g g6 sl at' en E t) (b : Below W.heap.size W W') : DS w W' g g6 sl at' en E t :=
  ⟨h.res.keep (b.block _ h.res.lt), h.own.keep (b.block _ h.own.lt), h.rd.keep (b.block _ h.rd.lt), fun X hs hk => h.tx X (Nat.le_trans b.size hs) (fun k h1 h2 => (hk k h1 (Nat.lt_of_lt_of_le h2 b.size)).trans (b.block k h2)), h.bel.trans (b.mono h.bel.size), h.gl, h.g6l⟩
/-- The result is stored. -/
theorem DS.put {w W : World} {g g6 : Nat} {sl : Value} {at' en E : Int} {t : MTx} (h : DS w W g g6 sl at' en E t) (a' b' c' d' : Value) :
    ∀ W', W' = ((((W.setCell ⟨w.heap.size, 0, none⟩ a').setCell ⟨w.heap.size, 1, none⟩ b').setCell ⟨w.heap.size, 2, none⟩ c').setCell ⟨w.heap.size, 3, none⟩ d') →
      Bx4 W' w.heap.size a' b' c' d' ∧ Bx4 W' g6 (.int .i32 t.ver) (.slice t.ia t.ins.length t.ic) (.slice t.oa t.outs.length t.oc) (.int .u32 (t.lock : Int)) ∧ Bx4 W' g sl (.int .i64 at') (.int .i64 en) (.int .i64 E) ∧ Below w.heap.size w W' ∧ TxAt W' W'.heap.size t := by
  rintro W' rfl
  have ht := tch_stored W w.heap.size a' b' c' d'
  have hg := h.gl
  have h6 := h.g6l
  exact ⟨h.res.stored a' b' c' d', h.own.keep (ht.block _ h.own.lt (by simp; omega)), h.rd.keep (ht.block _ h.rd.lt (by simp; omega)), h.bel.trans (ht.below h.bel.size (by simp)), h.tx _ ht.size (fun k h1 h2 => ht.block k h2 (by simp; omega))⟩
set_option maxHeartbeats 4000000 in
set_option maxRecDepth 100000 in
theorem decode_any (w : World) (A : Option Addr) (n c : Nat) (bs : List Nat) (hr : Rd w w.heap.size A n (bys bs)) (hb : B8 bs) (hn : (n : Int) ≤ 1000000) (hnc : n ≤ c) (hcm : (c : Int) ≤ 9223372036854775807) :
    Calls Try.prog 14 #[.slice A n c] w (DecPost w bs) := by
  have HD : Hid (dec bs = if (rTx (bs.take 65536, 0)).2.2.2 ≠ 0 then (nil0, 0, told (ends bs) (rTx (bs.take 65536, 0)).2.2.2)
    else if (rTx (bs.take 65536, 0)).1.ins.length = 0 ∨ (rTx (bs.take 65536, 0)).1.outs.length = 0 ∨ ((rTx (bs.take 65536, 0)).2.1 = true ∧ hasW (rTx (bs.take 65536, 0)).1 = false) then (nil0, 0, 2)
    else ((rTx (bs.take 65536, 0)).1, (bs.take 65536).length - (rTx (bs.take 65536, 0)).2.2.1.length, 0)) := Lib.hid rfl
  have hbl : bs.length = n := by have := hr.1; rwa [bys_len] at this
  have hok := (rTx_okF (s := (bs.take 65536, 0)) ⟨hb.take _, by simp only [List.length_take]; omega⟩).1
  obtain ⟨D, hD⟩ : ∃ D, D = dec bs := ⟨_, rfl⟩
  have HPOST : Hid (∀ e w', (∃ t : MTx, e = .returned (.tuple #[t.val, .int .i64 (D.2.1 : Int), .int .i64 (D.2.2 : Int)]) ∧ t.p = D.1 ∧ TxAt w' w'.heap.size t ∧ Below w.heap.size w w') → DecPost w bs e w') := Lib.hid (fun e w' h => by rw [hD] at h; exact h)
  rw [← hD] at HD
  obtain ⟨W1, e1⟩ : ∃ W1, W1 = w.alloc (.cells #[.int .i32 0, .slice none 0 0, .slice none 0 0, .int .u32 0] 26) := ⟨_, rfl⟩
  have b1 : Below w.heap.size w W1 := by rw [e1]; exact (Below.refl _ _).alloc (Nat.le_refl _) _
  have k1 : Bx4 W1 w.heap.size (.int .i32 0) (.slice none 0 0) (.slice none 0 0) (.int .u32 0) := by rw [e1]; exact Bx4.new _ _ _ _ _ _
  have s1 : W1.heap.size = w.heap.size + 1 := by rw [e1]; simp
  have HRO := Lib.hid (readerOf_any W1 A n c bs ((hr.below b1).up (by omega)) hb hn hnc hcm)
  rw [s1] at HRO
  have HTX := Lib.hid (fun W (hW : Rx W (w.heap.size + 1) (w.heap.size + 1) (bs.take 65536) (ends bs) (bs.take 65536, 0)) => tx_any W _ _ _ _ _ hW)
  have HE1 := Lib.hid e1
  have HK1 := Lib.hid k1
  have HB1 := Lib.hid b1
  have HOK := Lib.hid hok
  have HS1 := Lib.hid s1
  generalize rTx (bs.take 65536, 0) = R at *
  obtain ⟨q, hq⟩ : ∃ q, q = w.heap.size := ⟨_, rfl⟩
  clear hr hb hbl hok e1 b1 k1 s1 hD
  refine Calls.mono ?_ HPOST.out
  go_enter Try.func14, Try.ntmps14
  go_upto_region 1 with fail
  rw [← HE1.out]
  go_wp2_with fail
  refine HRO.out.mono ?_
  rintro ee w2 ⟨rfl, h2, b2⟩
  have b2' : Below W1.heap.size W1 w2 := by rw [HS1.out]; exact b2
  have k2 := Lib.hid (HK1.out.keep (b2'.block _ HK1.out.lt))
  have HX2 := Lib.hid (HTX.out _ h2)
  have HB2 := Lib.hid (HB1.out.trans (b2.mono (by omega)))
  have HG2 := Lib.hid h2.g_lt
  clear h2 b2 b2'
  go_wp2_with fail
  refine HX2.out.mono ?_
  rintro ee w3 ⟨vI, LI, vO, rfl, h3⟩
  obtain ⟨t, ht, htp, hta⟩ := h3.at_ HOK.out
  obtain ⟨A3, c3, hb3, _⟩ := h3.rx.box
  obtain ⟨q1, q2⟩ := h3.rx.tld
  have k3 := k2.out.keep (h3.t.block _ k2.out.lt (by simp))
  have HB3 : Hid (Below w.heap.size w w3) := Lib.hid (HB2.out.trans (h3.t.below HB2.out.size (by simp)))
  have hgl3 := h3.rx.g_lt
  have HPT := Lib.hid htp
  obtain ⟨ver, ins, ia, ic, outs, oa, oc, lock⟩ := t
  have hv : txV R.1 vI vO = .agg #[.int .i32 ver, .slice ia ins.length ic, .slice oa outs.length oc, .int .u32 (lock : Int)] := ht.symm
  rw [hv]
  have HPI : Hid (R.1.ins.length = ins.length) := Lib.hid (by rw [← htp]; simp [MTx.p])
  have HPO : Hid (R.1.outs.length = outs.length) := Lib.hid (by rw [← htp]; rfl)
  obtain ⟨W4, e4⟩ : ∃ W4, W4 = w3.alloc (.cells #[.int .i32 ver, .slice ia ins.length ic, .slice oa outs.length oc, .int .u32 (lock : Int)] 26) := ⟨_, rfl⟩
  have b4 : Below w3.heap.size w3 W4 := by rw [e4]; exact (Below.refl _ _).alloc (Nat.le_refl _) _
  have x4 : Bx4 W4 w3.heap.size (.int .i32 ver) (.slice ia ins.length ic) (.slice oa outs.length oc) (.int .u32 (lock : Int)) := by rw [e4]; exact Bx4.new _ _ _ _ _ _
  obtain ⟨at', hat⟩ : ∃ a : Nat, a = (bs.take 65536).length - R.2.2.1.length := ⟨_, rfl⟩
  rw [← hat] at hb3
  obtain ⟨sl, hsl⟩ : ∃ sl : Value, sl = .slice A3 (bs.take 65536).length c3 := ⟨_, rfl⟩
  rw [← hsl] at hb3
  obtain ⟨E, hE⟩ : ∃ E, E = told (ends bs) R.2.2.2 := ⟨_, rfl⟩
  rw [← hE] at hb3 q1
  have HS : Hid (DS w W4 (w.heap.size + 1) w3.heap.size sl (at' : Int) (ends bs : Int) (E : Int) ⟨ver, ins, ia, ic, outs, oa, oc, lock⟩) := Lib.hid
    ⟨k3.keep (b4.block _ k3.lt), x4, hb3.keep (b4.block _ hb3.lt), fun X hs hk => hta X (Nat.le_trans b4.size hs) (fun k h1 h2 => (hk k (by have := HG2.out; omega) (Nat.lt_of_lt_of_le h2 b4.size)).trans (b4.block k h2)), HB3.out.trans (b4.mono HB3.out.size), by omega, hgl3⟩
  obtain ⟨g6, hg6⟩ : ∃ g6, g6 = w3.heap.size := ⟨_, rfl⟩
  rw [← hg6] at HS
  have hta2 := hta w3 (Nat.le_refl _) (fun _ _ _ => rfl)
  have hil : (ins.length : Int) ≤ 9223372036854775807 := by have h1 := hta2.il; have h2 := hta2.ic; simp only at h1 h2; omega
  have hol : (outs.length : Int) ≤ 9223372036854775807 := by have h1 := hta2.ol; have h2 := hta2.oc; simp only at h1 h2; omega
  have HE4 := Lib.hid e4
  have HAT := Lib.hid hat
  have HEE := Lib.hid hE
  generalize hfl : R.2.1 = FL at *
  have HFL := Lib.hid hfl
  have d3 := HS.out.rd.c3
  clear ht htp hta hta2 hb3 k3 hgl3 e4 b4 x4 hat hsl hE hv h3 hfl
  go_upto_region 3 with fail
  rw [← HE4.out, ← hg6]
  clear hg6
  by_cases h0 : R.2.2.2 = 0
  · have e0 := q1.2 h0
    rw [e0] at d3
    have HD2 : Hid (D = if R.1.ins.length = 0 ∨ R.1.outs.length = 0 ∨ (FL = true ∧ hasW R.1 = false) then (nil0, 0, 2) else (R.1, at', 0)) := Lib.hid (by
      rw [HD.out, if_neg (by simpa using h0), HAT.out])
    rw [HPI.out, HPO.out] at HD2
    have x1 := HS.out.own.c1
    have x2 := HS.out.own.c2
    clear h0 e0 q1 q2
    by_cases hi0 : ins.length = 0
    · have HD3 : Hid (D = (nil0, 0, 2)) := Lib.hid (by rw [HD2.out, if_pos (.inl hi0)])
      have hi1 : ((ins.length : Int) == 0) = true := by simp [hi0]
      have hi2 : (ins.length : Int) = 0 := by omega
      have hw := HS.out
      have HP := Lib.hid (hw.put (.int .i32 0) (.slice none 0 0) (.slice none 0 0) (.int .u32 0) _ rfl)
      have y0 := hw.res.c0
      have y1 := hw.res.c1
      have y2 := hw.res.c2
      have y3 := hw.res.c3
      have f0 := hw.res.cold 0
      have f1 := hw.res.cold 1
      have f2 := hw.res.cold 2
      have f3 := hw.res.cold 3
      clear hw
      go_wp2
      have q0 := HP.out.1.c0
      have q1 := HP.out.1.c1
      have q2 := HP.out.1.c2
      have q3 := HP.out.1.c3
      refine bodyPost_ret (v := .tuple #[.agg #[.int .i32 0, .slice none 0 0, .slice none 0 0, .int .u32 0], .int .i64 0, .int .i64 2]) (by simp [results, Try.results14, go_sem, q0, q1, q2, q3]) rfl ⟨nilM, ?_, ?_, nilM_at _, HP.out.2.2.2.1⟩
      · rw [HD3.out]; rfl
      · rw [HD3.out]; rfl
    · have hi1 : ((ins.length : Int) == 0) = false := beq_eq_false_iff_ne.2 (by omega)
      have hi2 : ¬ (ins.length : Int) = 0 := by omega
      by_cases ho0 : outs.length = 0
      · have HD3 : Hid (D = (nil0, 0, 2)) := Lib.hid (by rw [HD2.out, if_pos (.inr (.inl ho0))])
        have ho1 : ((outs.length : Int) == 0) = true := by simp [ho0]
        have ho2 : (outs.length : Int) = 0 := by omega
        have hw := HS.out
        have HP := Lib.hid (hw.put (.int .i32 0) (.slice none 0 0) (.slice none 0 0) (.int .u32 0) _ rfl)
        have y0 := hw.res.c0
        have y1 := hw.res.c1
        have y2 := hw.res.c2
        have y3 := hw.res.c3
        have f0 := hw.res.cold 0
        have f1 := hw.res.cold 1
        have f2 := hw.res.cold 2
        have f3 := hw.res.cold 3
        clear hw
        go_wp2
        have q0 := HP.out.1.c0
        have q1 := HP.out.1.c1
        have q2 := HP.out.1.c2
        have q3 := HP.out.1.c3
        refine bodyPost_ret (v := .tuple #[.agg #[.int .i32 0, .slice none 0 0, .slice none 0 0, .int .u32 0], .int .i64 0, .int .i64 2]) (by simp [results, Try.results14, go_sem, q0, q1, q2, q3]) rfl ⟨nilM, ?_, ?_, nilM_at _, HP.out.2.2.2.1⟩
        · rw [HD3.out]; rfl
        · rw [HD3.out]; rfl
      · have ho1 : ((outs.length : Int) == 0) = false := beq_eq_false_iff_ne.2 (by omega)
        have ho2 : ¬ (outs.length : Int) = 0 := by omega
        cases FL with
        | false =>
          have HD3 : Hid (D = (R.1, at', 0)) := Lib.hid (by rw [HD2.out, if_neg (fun hh => by rcases hh with hh | hh | hh; exact hi0 hh; exact ho0 hh; exact absurd hh.1 (by decide))])
          go_upto_region 7 with fail
          clear d3 x1 x2
          have hw : DS w W4.drew _ _ _ _ _ _ _ := HS.out.below (Below.drew' (Below.refl _ _))
          have HP := Lib.hid (HS.out.put (.int .i32 ver) (.slice ia ins.length ic) (.slice oa outs.length oc) (.int .u32 (lock : Int)) _ rfl)
          have HTA := Lib.hid HP.out.2.2.2.2
          have l1 := hw.rd.c1
          have l2 := hw.own
          have y0 := HS.out.res.c0
          have y1 := HS.out.res.c1
          have y2 := HS.out.res.c2
          have y3 := HS.out.res.c3
          have f0 := HS.out.res.cold 0
          have f1 := HS.out.res.cold 1
          have f2 := HS.out.res.cold 2
          have f3 := HS.out.res.cold 3
          have hSS : W4.drew.cell? ⟨w.heap.size + 1, 1, none⟩ = some (.int .i64 (at' : Int)) ∧ W4.drew.cell? ⟨g6, 0, none⟩ = some (.int .i32 ver) ∧ W4.drew.cell? ⟨g6, 1, none⟩ = some (.slice ia ins.length ic) ∧ W4.drew.cell? ⟨g6, 2, none⟩ = some (.slice oa outs.length oc) ∧ W4.drew.cell? ⟨g6, 3, none⟩ = some (.int .u32 (lock : Int)) := ⟨l1, l2.c0, l2.c1, l2.c2, l2.c3⟩
          clear hw l1 l2
          refine wp_region_noPanic ?_
          refine wp_region_held_drew (S := (fun wx => wx.cell? ⟨w.heap.size + 1, 1, none⟩ = some (.int .i64 (at' : Int)) ∧ wx.cell? ⟨g6, 0, none⟩ = some (.int .i32 ver) ∧ wx.cell? ⟨g6, 1, none⟩ = some (.slice ia ins.length ic) ∧ wx.cell? ⟨g6, 2, none⟩ = some (.slice oa outs.length oc) ∧ wx.cell? ⟨g6, 3, none⟩ = some (.int .u32 (lock : Int)))) (by kernel_rfl) (hSS) (fun hHeld => ?_)
          refine wpAnyH_take (i := 0) (v := ?_) (by simp only [List.getElem?_toArray, List.getElem?_cons_succ, List.getElem?_cons_zero]; rfl) (by kernel_rfl) (by kernel_rfl) (by kernel_rfl) (fun _ _ _ h => h) (Or.inl ⟨by rfl, ?_⟩) (by assumption) ?_
          rotate_left
          · (intro w hSw; (try dsimp only at hSw); go_simp; (try with_reducible rfl))
          (try simp only [Act.put, List.setIfInBounds_toArray, List.set_cons_zero, List.set_cons_succ])
          refine wpAnyH_take (i := 1) (v := ?_) (by simp only [List.getElem?_toArray, List.getElem?_cons_succ, List.getElem?_cons_zero]; rfl) (by kernel_rfl) (by kernel_rfl) (by kernel_rfl) (fun _ _ _ h => h) (Or.inl ⟨by rfl, ?_⟩) (by assumption) ?_
          rotate_left
          · (intro w hSw; (try dsimp only at hSw); go_simp; (try with_reducible rfl))
          (try simp only [Act.put, List.setIfInBounds_toArray, List.set_cons_zero, List.set_cons_succ])
          refine wpAnyH_take (i := 2) (v := ?_) (by simp only [List.getElem?_toArray, List.getElem?_cons_succ, List.getElem?_cons_zero]; rfl) (by kernel_rfl) (by kernel_rfl) (by kernel_rfl) (fun _ _ _ h => h) (Or.inl ⟨by rfl, ?_⟩) (by assumption) ?_
          rotate_left
          · (intro w hSw; (try dsimp only at hSw); go_simp; (try with_reducible rfl))
          (try simp only [Act.put, List.setIfInBounds_toArray, List.set_cons_zero, List.set_cons_succ])
          refine wpAnyH_take (i := 3) (v := ?_) (by simp only [List.getElem?_toArray, List.getElem?_cons_succ, List.getElem?_cons_zero]; rfl) (by kernel_rfl) (by kernel_rfl) (by kernel_rfl) (fun _ _ _ h => h) (Or.inl ⟨by rfl, ?_⟩) (by assumption) ?_
          rotate_left
          · (intro w hSw; (try dsimp only at hSw); go_simp; (try with_reducible rfl))
          (try simp only [Act.put, List.setIfInBounds_toArray, List.set_cons_zero, List.set_cons_succ])
          refine wpAnyH_take (i := 4) (v := ?_) (by simp only [List.getElem?_toArray, List.getElem?_cons_succ, List.getElem?_cons_zero]; rfl) (by kernel_rfl) (by kernel_rfl) (by kernel_rfl) (fun _ _ _ h => h) (Or.inl ⟨by rfl, ?_⟩) (by assumption) ?_
          rotate_left
          · (intro w hSw; (try dsimp only at hSw); go_simp; (try with_reducible rfl))
          (try simp only [Act.put, List.setIfInBounds_toArray, List.set_cons_zero, List.set_cons_succ])
          refine wpAnyH_ready (rs := [5]) (by kernel_rfl) (by simp) ?_
          refine AllReadyH.cons (by simp only [List.getElem?_toArray, List.getElem?_cons_succ, List.getElem?_cons_zero]; rfl) (fun K hK => ?_) AllReadyH.nil
          go_simp
          refine hK.out _ _ ?_ (fun hHeld => ?_)
          · exact ⟨HP.out.2.2.1.c1, HP.out.2.1.c0, HP.out.2.1.c1, HP.out.2.1.c2, HP.out.2.1.c3⟩
          clear hK K
          (try simp only [Act.put, List.setIfInBounds_toArray, List.set_cons_zero, List.set_cons_succ])
          refine wpAnyH_take (i := 6) (v := ?_) (by simp only [List.getElem?_toArray, List.getElem?_cons_succ, List.getElem?_cons_zero]; rfl) (by kernel_rfl) (by kernel_rfl) (by kernel_rfl) (fun _ _ _ h => h) (Or.inl ⟨by rfl, ?_⟩) (by assumption) ?_
          rotate_left
          · (intro w hSw; (try dsimp only at hSw); go_simp; (try with_reducible rfl))
          (try simp only [Act.put, List.setIfInBounds_toArray, List.set_cons_zero, List.set_cons_succ])
          refine wpAnyH_take (i := 7) (v := ?_) (by simp only [List.getElem?_toArray, List.getElem?_cons_succ, List.getElem?_cons_zero]; rfl) (by kernel_rfl) (by kernel_rfl) (by kernel_rfl) (fun _ _ _ h => h) (Or.inl ⟨by rfl, ?_⟩) (by assumption) ?_
          rotate_left
          · (intro w hSw; (try dsimp only at hSw); go_simp; (try with_reducible rfl))
          (try simp only [Act.put, List.setIfInBounds_toArray, List.set_cons_zero, List.set_cons_succ])
          refine wpAnyH_done (by kernel_rfl) ?_ _
          refine NoPanic.normal ?_
          clear hHeld hSS y0 y1 y2 y3 f0 f1 f2 f3
          go_wp2_with fail
          have q0 := HP.out.1.c0
          have q1 := HP.out.1.c1
          have q2 := HP.out.1.c2
          have q3 := HP.out.1.c3
          refine bodyPost_ret (v := .tuple #[.agg #[.int .i32 ver, .slice ia ins.length ic, .slice oa outs.length oc, .int .u32 (lock : Int)], .int .i64 (at' : Int), .int .i64 0]) (by simp [results, Try.results14, go_sem, q0, q1, q2, q3]) rfl ⟨⟨ver, ins, ia, ic, outs, oa, oc, lock⟩, ?_, ?_, HTA.out.drew, Below.drew' HP.out.2.2.2.1⟩
          · rw [HD3.out]; rfl
          · rw [HD3.out]; exact HPT.out
        | true =>
          have HHW := Lib.hid (hasW_any W4 W4.heap.size _ (HS.out.tx W4 (Nat.le_refl _) (fun _ _ _ => rfl)) (Nat.le_refl _))
          rw [HPT.out] at HHW
          have HHW2 : Hid (Calls Try.prog 22 #[.agg #[.int .i32 ver, .slice ia ins.length ic, .slice oa outs.length oc, .int .u32 (lock : Int)]] W4 fun e w' => e = .returned (.bool (hasW R.1)) ∧ Below W4.heap.size W4 w') := HHW
          clear HHW
          have x0 := HS.out.own.c0
          have x3 := HS.out.own.c3
          generalize hwx : hasW R.1 = HX at *
          have HHX := Lib.hid hwx
          clear hwx
          go_wp2_with fail
          refine HHW2.out.mono ?_
          rintro ee w5 ⟨rfl, b5⟩
          have HSX := Lib.hid (HS.out.below b5)
          clear b5 d3 x0 x1 x2 x3
          cases HX with
          | false =>
            have HD3 : Hid (D = (nil0, 0, 2)) := Lib.hid (by rw [HD2.out, if_pos (by simp)])
            have hw := HSX.out
            have HP := Lib.hid (hw.put (.int .i32 0) (.slice none 0 0) (.slice none 0 0) (.int .u32 0) _ rfl)
            have y0 := hw.res.c0
            have y1 := hw.res.c1
            have y2 := hw.res.c2
            have y3 := hw.res.c3
            have f0 := hw.res.cold 0
            have f1 := hw.res.cold 1
            have f2 := hw.res.cold 2
            have f3 := hw.res.cold 3
            clear hw
            go_wp2
            have q0 := HP.out.1.c0
            have q1 := HP.out.1.c1
            have q2 := HP.out.1.c2
            have q3 := HP.out.1.c3
            refine bodyPost_ret (v := .tuple #[.agg #[.int .i32 0, .slice none 0 0, .slice none 0 0, .int .u32 0], .int .i64 0, .int .i64 2]) (by simp [results, Try.results14, go_sem, q0, q1, q2, q3]) rfl ⟨nilM, ?_, ?_, nilM_at _, HP.out.2.2.2.1⟩
            · rw [HD3.out]; rfl
            · rw [HD3.out]; rfl
          | true =>
            have HD3 : Hid (D = (R.1, at', 0)) := Lib.hid (by rw [HD2.out, if_neg (fun hh => by rcases hh with hh | hh | hh; exact hi0 hh; exact ho0 hh; exact absurd hh.2 (by decide))])
            go_upto_region 7 with fail
            have hw : DS w w5.drew _ _ _ _ _ _ _ := HSX.out.below (Below.drew' (Below.refl _ _))
            have HP := Lib.hid (HSX.out.put (.int .i32 ver) (.slice ia ins.length ic) (.slice oa outs.length oc) (.int .u32 (lock : Int)) _ rfl)
            have HTA := Lib.hid HP.out.2.2.2.2
            have l1 := hw.rd.c1
            have l2 := hw.own
            have y0 := HSX.out.res.c0
            have y1 := HSX.out.res.c1
            have y2 := HSX.out.res.c2
            have y3 := HSX.out.res.c3
            have f0 := HSX.out.res.cold 0
            have f1 := HSX.out.res.cold 1
            have f2 := HSX.out.res.cold 2
            have f3 := HSX.out.res.cold 3
            have hSS : w5.drew.cell? ⟨w.heap.size + 1, 1, none⟩ = some (.int .i64 (at' : Int)) ∧ w5.drew.cell? ⟨g6, 0, none⟩ = some (.int .i32 ver) ∧ w5.drew.cell? ⟨g6, 1, none⟩ = some (.slice ia ins.length ic) ∧ w5.drew.cell? ⟨g6, 2, none⟩ = some (.slice oa outs.length oc) ∧ w5.drew.cell? ⟨g6, 3, none⟩ = some (.int .u32 (lock : Int)) := ⟨l1, l2.c0, l2.c1, l2.c2, l2.c3⟩
            clear hw l1 l2
            refine wp_region_noPanic ?_
            refine wp_region_held_drew (S := (fun wx => wx.cell? ⟨w.heap.size + 1, 1, none⟩ = some (.int .i64 (at' : Int)) ∧ wx.cell? ⟨g6, 0, none⟩ = some (.int .i32 ver) ∧ wx.cell? ⟨g6, 1, none⟩ = some (.slice ia ins.length ic) ∧ wx.cell? ⟨g6, 2, none⟩ = some (.slice oa outs.length oc) ∧ wx.cell? ⟨g6, 3, none⟩ = some (.int .u32 (lock : Int)))) (by kernel_rfl) (hSS) (fun hHeld => ?_)
            refine wpAnyH_take (i := 0) (v := ?_) (by simp only [List.getElem?_toArray, List.getElem?_cons_succ, List.getElem?_cons_zero]; rfl) (by kernel_rfl) (by kernel_rfl) (by kernel_rfl) (fun _ _ _ h => h) (Or.inl ⟨by rfl, ?_⟩) (by assumption) ?_
            rotate_left
            · (intro w hSw; (try dsimp only at hSw); go_simp; (try with_reducible rfl))
            (try simp only [Act.put, List.setIfInBounds_toArray, List.set_cons_zero, List.set_cons_succ])
            refine wpAnyH_take (i := 1) (v := ?_) (by simp only [List.getElem?_toArray, List.getElem?_cons_succ, List.getElem?_cons_zero]; rfl) (by kernel_rfl) (by kernel_rfl) (by kernel_rfl) (fun _ _ _ h => h) (Or.inl ⟨by rfl, ?_⟩) (by assumption) ?_
            rotate_left
            · (intro w hSw; (try dsimp only at hSw); go_simp; (try with_reducible rfl))
            (try simp only [Act.put, List.setIfInBounds_toArray, List.set_cons_zero, List.set_cons_succ])
            refine wpAnyH_take (i := 2) (v := ?_) (by simp only [List.getElem?_toArray, List.getElem?_cons_succ, List.getElem?_cons_zero]; rfl) (by kernel_rfl) (by kernel_rfl) (by kernel_rfl) (fun _ _ _ h => h) (Or.inl ⟨by rfl, ?_⟩) (by assumption) ?_
            rotate_left
            · (intro w hSw; (try dsimp only at hSw); go_simp; (try with_reducible rfl))
            (try simp only [Act.put, List.setIfInBounds_toArray, List.set_cons_zero, List.set_cons_succ])
            refine wpAnyH_take (i := 3) (v := ?_) (by simp only [List.getElem?_toArray, List.getElem?_cons_succ, List.getElem?_cons_zero]; rfl) (by kernel_rfl) (by kernel_rfl) (by kernel_rfl) (fun _ _ _ h => h) (Or.inl ⟨by rfl, ?_⟩) (by assumption) ?_
            rotate_left
            · (intro w hSw; (try dsimp only at hSw); go_simp; (try with_reducible rfl))
            (try simp only [Act.put, List.setIfInBounds_toArray, List.set_cons_zero, List.set_cons_succ])
            refine wpAnyH_take (i := 4) (v := ?_) (by simp only [List.getElem?_toArray, List.getElem?_cons_succ, List.getElem?_cons_zero]; rfl) (by kernel_rfl) (by kernel_rfl) (by kernel_rfl) (fun _ _ _ h => h) (Or.inl ⟨by rfl, ?_⟩) (by assumption) ?_
            rotate_left
            · (intro w hSw; (try dsimp only at hSw); go_simp; (try with_reducible rfl))
            (try simp only [Act.put, List.setIfInBounds_toArray, List.set_cons_zero, List.set_cons_succ])
            refine wpAnyH_ready (rs := [5]) (by kernel_rfl) (by simp) ?_
            refine AllReadyH.cons (by simp only [List.getElem?_toArray, List.getElem?_cons_succ, List.getElem?_cons_zero]; rfl) (fun K hK => ?_) AllReadyH.nil
            go_simp
            refine hK.out _ _ ?_ (fun hHeld => ?_)
            · exact ⟨HP.out.2.2.1.c1, HP.out.2.1.c0, HP.out.2.1.c1, HP.out.2.1.c2, HP.out.2.1.c3⟩
            clear hK K
            (try simp only [Act.put, List.setIfInBounds_toArray, List.set_cons_zero, List.set_cons_succ])
            refine wpAnyH_take (i := 6) (v := ?_) (by simp only [List.getElem?_toArray, List.getElem?_cons_succ, List.getElem?_cons_zero]; rfl) (by kernel_rfl) (by kernel_rfl) (by kernel_rfl) (fun _ _ _ h => h) (Or.inl ⟨by rfl, ?_⟩) (by assumption) ?_
            rotate_left
            · (intro w hSw; (try dsimp only at hSw); go_simp; (try with_reducible rfl))
            (try simp only [Act.put, List.setIfInBounds_toArray, List.set_cons_zero, List.set_cons_succ])
            refine wpAnyH_take (i := 7) (v := ?_) (by simp only [List.getElem?_toArray, List.getElem?_cons_succ, List.getElem?_cons_zero]; rfl) (by kernel_rfl) (by kernel_rfl) (by kernel_rfl) (fun _ _ _ h => h) (Or.inl ⟨by rfl, ?_⟩) (by assumption) ?_
            rotate_left
            · (intro w hSw; (try dsimp only at hSw); go_simp; (try with_reducible rfl))
            (try simp only [Act.put, List.setIfInBounds_toArray, List.set_cons_zero, List.set_cons_succ])
            refine wpAnyH_done (by kernel_rfl) ?_ _
            refine NoPanic.normal ?_
            clear hHeld hSS y0 y1 y2 y3 f0 f1 f2 f3
            go_wp2_with fail
            have q0 := HP.out.1.c0
            have q1 := HP.out.1.c1
            have q2 := HP.out.1.c2
            have q3 := HP.out.1.c3
            refine bodyPost_ret (v := .tuple #[.agg #[.int .i32 ver, .slice ia ins.length ic, .slice oa outs.length oc, .int .u32 (lock : Int)], .int .i64 (at' : Int), .int .i64 0]) (by simp [results, Try.results14, go_sem, q0, q1, q2, q3]) rfl ⟨⟨ver, ins, ia, ic, outs, oa, oc, lock⟩, ?_, ?_, HTA.out.drew, Below.drew' HP.out.2.2.2.1⟩
            · rw [HD3.out]; rfl
            · rw [HD3.out]; exact HPT.out
  · have HD3 : Hid (D = (nil0, 0, E)) := Lib.hid (by rw [HD.out, if_pos (by simpa using h0), HEE.out])
    have e2 : ((E : Int) != 0) = true := by simp [bne]; intro h1; exact h0 (q1.1 (by omega))
    have e3 : ((E : Int) == 0) = false := by simp; intro h1; exact h0 (q1.1 (by omega))
    clear h0 q1 q2
    go_upto_region 4 with fail
    have hw : DS w W4.drew _ _ _ _ _ _ _ := HS.out.below (Below.drew' (Below.refl _ _))
    have HP := Lib.hid (HS.out.put (.int .i32 0) (.slice none 0 0) (.slice none 0 0) (.int .u32 0) _ rfl)
    have l3 := hw.rd.c3
    have y0 := HS.out.res.c0
    have y1 := HS.out.res.c1
    have y2 := HS.out.res.c2
    have y3 := HS.out.res.c3
    have f0 := HS.out.res.cold 0
    have f1 := HS.out.res.cold 1
    have f2 := HS.out.res.cold 2
    have f3 := HS.out.res.cold 3
    clear d3 e2 e3 hw
    refine wp_region_noPanic ?_
    refine wp_region_held_drew (S := (fun wx => wx.cell? ⟨w.heap.size + 1, 3, none⟩ = some (.int .i64 (E : Int)))) (by kernel_rfl) (l3) (fun hHeld => ?_)
    refine wpAnyH_take (i := 0) (v := ?_) (by simp only [List.getElem?_toArray, List.getElem?_cons_succ, List.getElem?_cons_zero]; rfl) (by kernel_rfl) (by kernel_rfl) (by kernel_rfl) (fun _ _ _ h => h) (Or.inl ⟨by rfl, ?_⟩) (by assumption) ?_
    rotate_left
    · (intro w hSw; (try dsimp only at hSw); go_simp; (try with_reducible rfl))
    (try simp only [Act.put, List.setIfInBounds_toArray, List.set_cons_zero, List.set_cons_succ])
    refine wpAnyH_take (i := 1) (v := ?_) (by simp only [List.getElem?_toArray, List.getElem?_cons_succ, List.getElem?_cons_zero]; rfl) (by kernel_rfl) (by kernel_rfl) (by kernel_rfl) (fun _ _ _ h => h) (Or.inl ⟨by rfl, ?_⟩) (by assumption) ?_
    rotate_left
    · (intro w hSw; (try dsimp only at hSw); go_simp; (try with_reducible rfl))
    (try simp only [Act.put, List.setIfInBounds_toArray, List.set_cons_zero, List.set_cons_succ])
    refine wpAnyH_take (i := 2) (v := ?_) (by simp only [List.getElem?_toArray, List.getElem?_cons_succ, List.getElem?_cons_zero]; rfl) (by kernel_rfl) (by kernel_rfl) (by kernel_rfl) (fun _ _ _ h => h) (Or.inl ⟨by rfl, ?_⟩) (by assumption) ?_
    rotate_left
    · (intro w hSw; (try dsimp only at hSw); go_simp; (try with_reducible rfl))
    (try simp only [Act.put, List.setIfInBounds_toArray, List.set_cons_zero, List.set_cons_succ])
    refine wpAnyH_take (i := 3) (v := ?_) (by simp only [List.getElem?_toArray, List.getElem?_cons_succ, List.getElem?_cons_zero]; rfl) (by kernel_rfl) (by kernel_rfl) (by kernel_rfl) (fun _ _ _ h => h) (Or.inl ⟨by rfl, ?_⟩) (by assumption) ?_
    rotate_left
    · (intro w hSw; (try dsimp only at hSw); go_simp; (try with_reducible rfl))
    (try simp only [Act.put, List.setIfInBounds_toArray, List.set_cons_zero, List.set_cons_succ])
    refine wpAnyH_take (i := 4) (v := ?_) (by simp only [List.getElem?_toArray, List.getElem?_cons_succ, List.getElem?_cons_zero]; rfl) (by kernel_rfl) (by kernel_rfl) (by kernel_rfl) (fun _ _ _ h => h) (Or.inl ⟨by rfl, ?_⟩) (by assumption) ?_
    rotate_left
    · (intro w hSw; (try dsimp only at hSw); go_simp; (try with_reducible rfl))
    (try simp only [Act.put, List.setIfInBounds_toArray, List.set_cons_zero, List.set_cons_succ])
    refine wpAnyH_ready (rs := [5]) (by kernel_rfl) (by simp) ?_
    refine AllReadyH.cons (by simp only [List.getElem?_toArray, List.getElem?_cons_succ, List.getElem?_cons_zero]; rfl) (fun K hK => ?_) AllReadyH.nil
    go_simp
    refine hK.out _ _ ?_ (fun hHeld => ?_)
    · exact HP.out.2.2.1.c3
    clear hK K
    (try simp only [Act.put, List.setIfInBounds_toArray, List.set_cons_zero, List.set_cons_succ])
    refine wpAnyH_take (i := 6) (v := ?_) (by simp only [List.getElem?_toArray, List.getElem?_cons_succ, List.getElem?_cons_zero]; rfl) (by kernel_rfl) (by kernel_rfl) (by kernel_rfl) (fun _ _ _ h => h) (Or.inl ⟨by rfl, ?_⟩) (by assumption) ?_
    rotate_left
    · (intro w hSw; (try dsimp only at hSw); go_simp; (try with_reducible rfl))
    (try simp only [Act.put, List.setIfInBounds_toArray, List.set_cons_zero, List.set_cons_succ])
    refine wpAnyH_take (i := 7) (v := ?_) (by simp only [List.getElem?_toArray, List.getElem?_cons_succ, List.getElem?_cons_zero]; rfl) (by kernel_rfl) (by kernel_rfl) (by kernel_rfl) (fun _ _ _ h => h) (Or.inl ⟨by rfl, ?_⟩) (by assumption) ?_
    rotate_left
    · (intro w hSw; (try dsimp only at hSw); go_simp; (try with_reducible rfl))
    (try simp only [Act.put, List.setIfInBounds_toArray, List.set_cons_zero, List.set_cons_succ])
    refine wpAnyH_done (by kernel_rfl) ?_ _
    refine NoPanic.normal ?_
    clear hHeld l3 y0 y1 y2 y3 f0 f1 f2 f3
    go_wp2_with fail
    have q0 := HP.out.1.c0
    have q1 := HP.out.1.c1
    have q2 := HP.out.1.c2
    have q3 := HP.out.1.c3
    refine bodyPost_ret (v := .tuple #[.agg #[.int .i32 0, .slice none 0 0, .slice none 0 0, .int .u32 0], .int .i64 0, .int .i64 (E : Int)]) (by simp [results, Try.results14, go_sem, q0, q1, q2, q3]) rfl ⟨nilM, ?_, ?_, nilM_at _, Below.drew' HP.out.2.2.2.1⟩
    · rw [HD3.out]; rfl
    · rw [HD3.out]; rfl
end Go.Proofs.Ytkdkihacpjhgmaa
