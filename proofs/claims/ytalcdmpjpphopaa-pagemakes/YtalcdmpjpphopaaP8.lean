/- Walks: read. -/
import Derived.Test.YtalcdmpjpphopaaP7
import Derived.Test.YtalcdmpjpphopaaArm
namespace Go.Proofs.Ytalcdmpjpphopaa
set_option linter.unusedSimpArgs false
set_option linter.unusedVariables false
open Go.RowKit

theorem Try.infoP : (Try.prog.info? 30).map (fun i => (i.zero, i.size, i.bytes)) = some (some (.agg #[.string ⟨#[]⟩, .string ⟨#[]⟩]), 2, 32) := by kernel_rfl
theorem infoP_parts {i : Option TypeInfo} (h : i.map (fun i => (i.zero, i.size, i.bytes)) = some (some (Value.agg #[.string ⟨#[]⟩, .string ⟨#[]⟩]), 2, 32)) : ∃ i0, i = some i0 ∧ i0.zero = some (Value.agg #[.string ⟨#[]⟩, .string ⟨#[]⟩]) ∧ i0.size = 2 ∧ i0.bytes = 32 := by
  cases i with
  | none => cases h
  | some i0 => simp at h; exact ⟨i0, rfl, h.1, h.2.1, h.2.2⟩

theorem lit_pr (w : World) (p : Pr) (parts : Array (Nat × Value)) (hp : parts.toList = [(0, prV p)]) :
    (Instr.buildSlice 22 1 parts).run Try.prog w = .ok (.slice (some ⟨w.heap.size, 0, none⟩) 1 1) (w.alloc (.cells (prC2 [p]).toArray 30)) := by
  obtain ⟨i0, hi, hz0, hz1, hz2⟩ := infoP_parts Try.infoP
  have := run_buildSlice_rows (P := Try.prog) w 22 30 i0 _ 2 Try.underlying22 hi hz0 hz1 (by omega) 1 [prC p] rfl (by omega) (by simp [prC]) (by omega) parts hp
  simpa [prC2] using this
/-- A pair laid behind a row of the call's own. -/
theorem app_pr (w : World) (base : Nat) (v : Value) (n : Nat) (L : List Pr) (hown : w.ownsRow base 30 2 v n (prC2 L)) (p : Pr) (hn : (n : Int) ≤ 1000000) (hbase : base ≤ w.heap.size) :
    ∃ v' w', (Builtin.append_ #[22, 22] 22 #[v, .slice (some ⟨w.heap.size, 0, none⟩) 1 1]).run Try.prog (w.alloc (.cells (prC2 [p]).toArray 30)) = .ok v' w' ∧ w'.ownsRow base 30 2 v' (n + 1) (prC2 (L ++ [p])) ∧ w.grownBy w' v.ownBlock ∧ (v'.ownBlock = v.ownBlock ∨ ∀ k, v'.ownBlock = some k → w.heap.size ≤ k) := by
  obtain ⟨i0, hi, hz0, hz1, hz2⟩ := infoP_parts Try.infoP
  obtain ⟨v', w', h1, h2, h3, h4⟩ := run_appN (P := Try.prog) (w.alloc (.cells (prC2 [p]).toArray 30)) base 22 22 30 i0 _ 2 32 Try.underlying22 hi hz0 hz1 hz2 rfl (by omega) (hown.alloc _) (RdN.new w 2 1 (prC2 [p]) 30 (0, 0) (by rw [prC2_len]; rfl)) (c := 1) (prC2_one _) (by unfold maxLen; omega) (by omega) (by simp; omega)
  refine ⟨v', w', h1, by rw [prC2_app]; exact h2, (World.grownBy_alloc w _ _).trans h3, h4.imp id fun e k hk => ?_⟩
  have := e k hk
  simp at this
  omega

theorem rdN_sub (s : St) : ∀ x ∈ (rdN s).2.1, x ∈ s.1 := by
  unfold rdN
  split
  · exact fun x hx => List.mem_of_mem_drop hx
  · intro x hx; simp [bad] at hx
theorem rdT_sub (s : St) (n : Nat) : (∀ x ∈ (rdT s n).2.1, x ∈ s.1) ∧ ∀ x ∈ (rdT s n).1, x ∈ s.1 := by
  unfold rdT
  split
  · exact ⟨by intro x hx; simp [bad] at hx, by intro x hx; cases hx⟩
  · exact ⟨fun x hx => List.mem_of_mem_drop hx, fun x hx => List.mem_of_mem_take hx⟩
/-- What a pair that is read has of bytes. -/
theorem rdP_ok (s : St) (a : List Nat) (hb : ∀ x ∈ s.1, x < 256) (ha : ∀ x ∈ a, x < 256) : (∀ x ∈ (rdP s a).1.1, x < 256) ∧ (∀ x ∈ (rdP s a).1.2, x < 256) ∧ (rdP s a).1.1.length + (rdP s a).2.1.length ≤ a.length + s.1.length ∧ (rdP s a).1.2.length ≤ s.1.length := by
  have h1 := rdN_sub s
  have h2 := rdN_sub (rdN s).2
  have h3 := rdN_sub (rdN (rdN s).2).2
  have k1 := (rdN_le s).1
  have k2 := (rdN_le (rdN s).2).1
  have k3 := (rdN_le (rdN (rdN s).2).2).1
  have h4 := rdT_sub (rdN (rdN (rdN s).2).2).2 (rdN (rdN s).2).1
  have h5 := rdT_sub (rdT (rdN (rdN (rdN s).2).2).2 (rdN (rdN s).2).1).2 (rdN (rdN (rdN s).2).2).1
  have k4 := rdT_le (rdN (rdN (rdN s).2).2).2 (rdN (rdN s).2).1
  have k5 := rdT_le (rdT (rdN (rdN (rdN s).2).2).2 (rdN (rdN s).2).1).2 (rdN (rdN (rdN s).2).2).1
  unfold rdP
  split
  · simp [bad]
  · simp only
    refine ⟨fun x hx => ?_, fun x hx => hb x (h1 x (h2 x (h3 x (h4.1 x (h5.2 x hx))))), ?_, by omega⟩
    · rcases List.mem_append.1 hx with hx | hx
      · exact ha x (List.mem_of_mem_take hx)
      · exact hb x (h1 x (h2 x (h3 x (h4.2 x hx))))
    · rw [List.length_append, List.length_take]
      omega

/-- What read has so far. -/
structure RdS (w0 : World) (B b gr : Nat) (wr : World) (v : Value) (T : List Pr) (i : Nat) (prev : List Nat) (L : List Pr) (s : St) : Prop where
  rd : Rdr wr B gr s
  own : wr.ownsRow b 30 2 v L.length (prC2 L)
  ne : v.ownBlock ≠ some gr
  bel : Below b w0 wr
  grb : b ≤ gr
  cnt : L.length = i
  pre : 0 < i → ∃ p, L[i - 1]? = some p ∧ p.1 = prev
  pok : (∀ x ∈ prev, x < 256) ∧ prev.length + s.1.length ≤ 262144
  ok : ∀ p ∈ L, (∀ x ∈ p.1, x < 256) ∧ (∀ x ∈ p.2, x < 256) ∧ p.1.length ≤ 262144 ∧ p.2.length ≤ 262144

set_option maxHeartbeats 4000000 in
set_option maxRecDepth 100000 in
theorem read_any (A : Option Addr) (n c : Nat) (bs : List Nat) (w : World) (hr : Rd w w.heap.size A n (bys bs)) (hb : ∀ c ∈ bs, c < 256) (hn : (n : Int) ≤ 1000000000) (hnc : n ≤ c) (hcm : c ≤ maxLen) :
    Calls Try.prog 27 #[.slice A n c] w fun e w' => ∃ v, e = .returned (.tuple #[v, .bool (readM bs).2]) ∧ w'.ownsRow w.heap.size 30 2 v (readM bs).1.length (prC2 (readM bs).1) ∧ Below w.heap.size w w' ∧ (∀ p ∈ (readM bs).1, okP p) ∧ ((readM bs).1.length : Int) ≤ 262144 := by
  obtain ⟨iP, hiP, hp0, hp1, hp2⟩ := infoP_parts Try.infoP
  have HCUT := Lib.hid (cut_any A n c bs w w.heap.size hr (Nat.le_refl _) hb hn hnc hcm)
  have hbl : bs.length = n := by have := hr.1; rwa [bys_len] at this
  have HRM : Hid (readM bs = if cutOk bs then ((rdGo (bodyLen bs) 0 [] [] (bs.take (bodyLen bs), false)).1, !(rdGo (bodyLen bs) 0 [] [] (bs.take (bodyLen bs), false)).2) else ([], false)) := Lib.hid rfl
  have HCO : Hid (cutOk bs = true → bodyLen bs ≤ n ∧ bodyLen bs ≤ 262144) := Lib.hid (fun h => by
    unfold cutOk at h
    simp only [Bool.and_eq_true, decide_eq_true_eq] at h
    refine ⟨?_, h.2⟩
    unfold bodyLen
    omega)
  have HR := Lib.hid hr
  have HB := Lib.hid hb
  obtain ⟨b, hbe⟩ : ∃ b, b = w.heap.size := ⟨_, rfl⟩
  rw [← hbe]
  have HBE := Lib.hid hbe
  clear hr hb hbe hbl
  go_enter Try.func27, Try.ntmps27
  go_wp2_with fail
  refine HCUT.out.mono ?_
  rintro e w1 ⟨v1, rfl, hv1, hb1⟩
  have HB1 := Lib.hid hb1
  clear hb1 HCUT
  cases hco : cutOk bs with
  | false =>
    rw [hco, if_neg (by simp)] at HRM
    have HF : Hid (Below b w w1) := by rw [HBE.out]; exact HB1
    clear hv1 HCO
    go_wp2
    go_ret2
    rw [HRM.out]
    exact ⟨_, rfl, World.ownsRow_nil _ _ _ _, HF.out, by simp, by simp⟩
  | true =>
    obtain ⟨hl1, hl2⟩ := HCO.out hco
    rw [hv1 hco] 
    rw [hco, if_pos rfl] at HRM
    clear hv1 HCO hco
    obtain ⟨K, hK⟩ : ∃ K, K = bodyLen bs := ⟨_, rfl⟩
    rw [← hK] at HRM hl1 hl2 ⊢
    clear hK
    go_upto_region 5 with fail
    obtain ⟨w2, hw2⟩ : ∃ w2, w2 = w1.alloc (.cells #[.slice A K c, .bool false] 77) := ⟨_, rfl⟩
    rw [← hw2]
    obtain ⟨gr, hgr⟩ : ∃ gr, gr = w1.heap.size := ⟨_, rfl⟩
    have b2 : Below w1.heap.size w1 w2 := by rw [hw2]; exact (Below.refl _ _).alloc (Nat.le_refl _) _
    have X2 : Bx2 w2 gr (.slice A K c) (.bool false) := by rw [hw2, hgr]; exact Bx2.new _ _ _ _
    have hbr : b ≤ gr := by rw [hgr, HBE.out]; exact HB1.out.size
    have hkl : (bs.take K).length = K := by rw [List.length_take]; have := HR.out.1; rw [bys_len] at this; omega
    have R0 : RdS w b b gr w2 (.slice none 0 0) [] 0 [] [] (bs.take K, false) := by
      refine ⟨⟨⟨A, c, by rw [hkl]; exact X2, ?_, by rw [hkl]; omega, hcm⟩, fun x hx => HB.out x (List.mem_of_mem_take hx), hbr, by rw [hkl]; omega⟩, World.ownsRow_nil _ _ _ _, by simp [Value.ownBlock], ?_, hbr, rfl, fun h => absurd h (by omega), ⟨by simp, by rw [hkl]; simpa using hl2⟩, by simp⟩
      · rw [hkl, bys_take]
        have h1 := (HR.out.below HB1.out).below (b2.mono HB1.out.size)
        rw [HBE.out]
        exact h1.take K hl1
      · have h1 : Below w.heap.size w w2 := HB1.out.trans (b2.mono HB1.out.size)
        rw [HBE.out]; exact h1
    rw [← hgr]
    have HR0 := Lib.hid R0
    obtain ⟨GO, hGO⟩ : ∃ GO, GO = rdGo K 0 [] [] (bs.take K, false) := ⟨_, rfl⟩
    rw [← hGO] at HRM
    have hlen0 : (bs.take K).length ≤ K := by omega
    have HGO := Lib.hid hGO
    have hKi : (K : Int) ≤ 262144 := by omega
    clear hw2 hgr b2 X2 hkl R0 hGO hl1 hl2 HR HB
    go_upto_region 6 with fail
    go_loopg [7] (K + 1) (fun kx v7 wr => ∃ (f i : Nat) (prev : List Nat) (L : List Pr) (s : St), f ≤ K ∧ kx = f + 1 ∧ i + f ≤ K ∧ Hid (RdS w b b gr wr v7 [] i prev L s) ∧ Hid (GO = rdGo f i prev L s) ∧ Hid (s.1.length ≤ f))
    case atStart => exact ⟨K, 0, [], [], _, Nat.le_refl _, rfl, by omega, HR0, HGO, Lib.hid hlen0⟩
    case round =>
      obtain ⟨f, i, prev, L, s, hfK, hkx, hiK, HS, HG, HF⟩ := hrel
      have HX := Lib.hid hkx
      clear hkx HR0 HGO hlen0
      obtain ⟨A1, c1, hb1, hr1, hnc1, hcm1⟩ := HS.out.rd.box
      have x0 := hb1.c0
      have x1 := hb1.c1
      have hsf := HS.out.rd.few
      have hsl : (s.1.length : Int) ≤ 1000000 := by omega
      have hbw := HS.out.bel
      have hbs : b ≤ wr.heap.size := by rw [HBE.out]; exact hbw.size
      by_cases h0 : s.1 = []
      · have hl0 : s.1.length = 0 := by rw [h0]; rfl
        have HG2 : Hid (GO = (L, s.2)) := Lib.hid (by
          rw [HG.out]
          cases f with
          | zero => rfl
          | succ f => rw [rdGo, if_pos h0])
        rw [hl0] at x0
        generalize s.2 = br at *
        have HOW := Lib.hid HS.out.own
        have HOKK : Hid ((∀ p ∈ L, okP p) ∧ (L.length : Int) ≤ 262144) := Lib.hid ⟨fun p hp => by obtain ⟨a1, a2, a3, a4⟩ := HS.out.ok p hp; exact ⟨a1, a2, by omega, by omega⟩, by have := HS.out.cnt; omega⟩
        clear hb1 hr1 hl0 h0 hsf hsl
        go_upto_region 8 with fail
        go_quiet (fail)
        have HOW2 : Hid ((wr.drewN nq).ownsRow b 30 2 u7 L.length (prC2 L) ∧ Below b w (wr.drewN nq)) := Lib.hid ⟨ownN_keep HOW.out (fun _ _ => rfl), hbw.trans ((below_drewN wr nq).mono hbs)⟩
        go_wp2
        go_ret2
        rw [HRM.out, HG2.out]
        exact ⟨_, rfl, HOW2.out.1, HOW2.out.2, HOKK.out⟩
      · have hpos : 0 < s.1.length := List.length_pos_iff.2 h0
        have hpos' : (0 : Int) < (s.1.length : Int) := by omega
        obtain ⟨f2, rfl⟩ : ∃ f2, f = f2 + 1 := ⟨f - 1, by have := HF.out; omega⟩
        have HG2 : Hid (GO = rdGo f2 (i + 1) (rdP s (ahd i prev)).1.1 (L ++ [(rdP s (ahd i prev)).1]) (rdP s (ahd i prev)).2) := Lib.hid (by rw [HG.out, rdGo, if_neg h0])
        obtain ⟨A7, c7, rfl, _, _, hr7⟩ := own_rdN HS.out.own
        have hLi : (L.length : Int) ≤ 1000000 := by have := HS.out.cnt; omega
        have HAH := Lib.hid (ahead_any A7 c7 L wr hr7 L.length prev (Nat.le_refl _) (by omega) (by have := HS.out.pre; rw [← HS.out.cnt] at this; exact this))
        rw [show ahd L.length prev = ahd i prev by rw [HS.out.cnt]] at HAH
        have HAL : Hid ((∀ x ∈ ahd i prev, x < 256) ∧ (ahd i prev).length + s.1.length ≤ 262144) := Lib.hid (by
          unfold ahd
          split
          · exact ⟨by simp, by have := HS.out.pok.2; simp; omega⟩
          · exact HS.out.pok)
        have HPA := Lib.hid (pair_any wr b gr s (ahd i prev) (by have := HAL.out.2; omega) HS.out.rd)
        have HPO := Lib.hid (rdP_ok s (ahd i prev) HS.out.rd.lt HAL.out.1)
        have HPL := Lib.hid (rdP_le s (ahd i prev) h0)
        generalize ahd i prev = ah at *
        clear hb1 hr1 h0 hr7
        go_wp2_with fail
        refine HAH.out.mono ?_
        rintro e w3 ⟨rfl, rfl⟩
        go_wp2_with fail
        refine HPA.out.mono ?_
        rintro e w4 ⟨rfl, h4, t4⟩
        have H4 := Lib.hid h4
        have hgl := HS.out.rd.gr_lt
        have HO4 : Hid (w4.ownsRow b 30 2 (.slice A7 L.length c7) L.length (prC2 L)) := Lib.hid (ownN_keep HS.out.own (fun k hk => t4.block k (HS.out.own.lt k hk).2 (by simp; rintro rfl; exact HS.out.ne hk)))
        have HB4 : Hid (Below b w w4) := Lib.hid (HS.out.bel.trans (t4.below hbs (by intro i hi; simp at hi; subst hi; exact hbr)))
        have s4 : b ≤ w4.heap.size := Nat.le_trans hbs t4.size
        generalize hp : (rdP s ah).1 = p at *
        generalize hs2 : (rdP s ah).2 = s2 at *
        have hlit := lit_pr w4 p #[(0, prV p)] rfl
        obtain ⟨v5, w5, run5, own5, gr5, loc5⟩ := app_pr w4 b (.slice A7 L.length c7) L.length L HO4.out p hLi s4
        have HLIT := Lib.hid hlit
        have HRUN := Lib.hid run5
        have hgr4 : gr < w4.heap.size := Nat.lt_of_lt_of_le hgl t4.size
        have HNX : Hid (RdS w b b gr w5 v5 [] (i + 1) p.1 (L ++ [p]) s2) := Lib.hid (by
          have hne5 : v5.ownBlock ≠ some gr := by
            rcases loc5 with e | e
            · rw [e]; exact HS.out.ne
            · intro hk; have := e gr hk; omega
          have hbk : w5.heap[gr]? = w4.heap[gr]? := gr5.block gr hgr4 (fun e => HS.out.ne e.symm)
          have hbb : Below b w4 w5 := (Below.refl _ _).grown gr5 s4 (fun k hk => (HO4.out.lt k hk).1)
          obtain ⟨A9, c9, k1, k2, k3⟩ := H4.out.box
          refine ⟨⟨⟨A9, c9, k1.keep hbk, k2.below hbb, k3⟩, H4.out.lt, H4.out.lo, H4.out.few⟩, by rw [List.length_append]; exact own5, hne5, HB4.out.trans hbb, hbr, by rw [List.length_append, HS.out.cnt]; rfl, fun _ => ⟨p, ?_, rfl⟩, ⟨HPO.out.1, ?_⟩, ?_⟩
          · rw [Nat.add_sub_cancel, ← HS.out.cnt, List.getElem?_append_right (Nat.le_refl _), Nat.sub_self]; rfl
          · have := HPO.out.2.2.1; have := HAL.out.2; omega
          · intro q hq
            rcases List.mem_append.1 hq with hq | hq
            · exact HS.out.ok q hq
            · simp at hq
              subst hq
              exact ⟨HPO.out.1, HPO.out.2.1, by have := HPO.out.2.2.1; have := HAL.out.2; omega, by have := HPO.out.2.2.2; have := HAL.out.2; omega⟩)
        clear h4 t4 hgl hlit run5 own5 gr5 loc5 hp hs2
        have hpv : Hid (prV p = .agg #[.string (strB p.1), .string (strB p.2)]) := Lib.hid rfl
        go_wp2_with (first
          | (refine arm_build1 22 (.tmp 26) (v' := ?_) (w' := ?_) ?hr ?_; case hr => exact HLIT.out)
          | (refine arm_append 22 (.tmp 21) (.tmp 27) (v' := ?_) (w' := ?_) ?hr2 ?_; case hr2 => exact HRUN.out))
        go_roundg (f2 + 1)
        case measure => have := HX.out; omega
        case rel => exact ⟨f2, i + 1, p.1, L ++ [p], s2, by omega, rfl, by omega, HNX, HG2, Lib.hid (by have := HPL.out; have := HF.out; omega)⟩
end Go.Proofs.Ytalcdmpjpphopaa
