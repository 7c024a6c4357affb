/- Walks: bytes.Equal, slices.Clone, All, Parse. -/
import Derived.Test.YtalcdmpjpphopaaP8
import Derived.Laws.Cover3
namespace Go.Proofs.Ytalcdmpjpphopaa
set_option linter.unusedSimpArgs false
set_option linter.unusedVariables false
open Go.RowKit

set_option maxHeartbeats 1000000 in
theorem equal_any (A A' : Option Addr) (n c n' c' : Nat) (bs bs' : List Nat) (w : World) (B B' : Nat) (hr : Rd w B A n (bys bs)) (hr' : Rd w B' A' n' (bys bs')) (hb : ∀ c ∈ bs, c < 256) (hb' : ∀ c ∈ bs', c < 256) :
    Calls Try.prog 28 #[.slice A n c, .slice A' n' c'] w fun e w' => e = .returned (.bool (decide (bs = bs'))) ∧ w = w' := by
  have k1 := run_conv (P := Try.prog) c hr 25 9 5 Try.underlying25 Try.underlying5 Try.underlying9
  have k2 := run_conv (P := Try.prog) c' hr' 25 9 5 Try.underlying25 Try.underlying5 Try.underlying9
  have he := strB_beq bs bs' hb hb'
  generalize decide (bs = bs') = d at *
  generalize strB bs = S at *
  generalize strB bs' = S' at *
  clear hr hr' hb hb'
  go_enter Try.func28, Try.ntmps28
  go_wp2
  go_ret
  exact ⟨rfl, rfl⟩

theorem run_eql_nil {P : Program} (w : World) (t e : TypeId) (a : Option Addr) (l c : Nat) (h : P.underlying t = some (.slice e)) : (binOp .eql t (.slice a l c) (.slice none 0 0)).run P w = .ok (.bool a.isNone) w := by
  simp only [binOp]
  simp [run_equal_slice_nil w t e a l c h]

set_option maxHeartbeats 1000000 in
set_option maxRecDepth 100000 in
theorem clone_any (A : Option Addr) (c : Nat) (L : List Pr) (w : World) (hr : RdN w w.heap.size 2 A L.length (prC2 L)) (hl : (L.length : Int) ≤ 1000000) :
    Calls Try.prog 29 #[.slice A L.length c] w fun e w' => ∃ v, e = .returned v ∧ w'.ownsRow w.heap.size 30 2 v L.length (prC2 L) ∧ Below w.heap.size w w' := by
  obtain ⟨i0, hi, hz0, hz1, hz2⟩ := infoP_parts Try.infoP
  have hnil := fun wx => run_eql_nil (P := Try.prog) wx 22 30 A L.length c Try.underlying22
  cases A with
  | none =>
    have h0 : L.length = 0 := by
      rcases Nat.eq_zero_or_pos L.length with h | h
      · exact h
      · obtain ⟨g, off, e, _⟩ := hr.at_ h; cases e
    have hL : L = [] := List.eq_nil_of_length_eq_zero h0
    subst hL
    have hnil0 := fun wx => run_eql_nil (P := Try.prog) wx 22 30 none 0 c Try.underlying22
    clear hnil hr
    show Calls _ _ #[.slice none 0 c] _ _
    go_enter Try.func29, Try.ntmps29
    go_wp2_with fail
    go_ret
    exact ⟨_, rfl, World.ownsRow_nil _ _ _ _, Below.refl _ _⟩
  | some a =>
    have hown : (w.alloc (.cells #[] 30)).ownsRow w.heap.size 30 2 (.slice (some ⟨w.heap.size, 0, none⟩) 0 0) 0 [] := World.ownsRow_lit (e := 30) (size := 2) w #[] 0 (Nat.le_refl _) (by unfold maxLen; omega) rfl
    have hba : Below w.heap.size w (w.alloc (.cells #[] 30)) := (Below.refl _ _).alloc (Nat.le_refl _) _
    obtain ⟨v', w', h1, h2, h3, h4⟩ := run_appN (P := Try.prog) (w.alloc (.cells #[] 30)) w.heap.size 22 22 30 i0 _ 2 32 Try.underlying22 hi hz0 hz1 hz2 rfl (by omega) hown (hr.below hba) (c := c) (prC2_one _) (by unfold maxLen; omega) (by omega) (by simp)
    have HRUN := Lib.hid h1
    have HE : Hid (w'.ownsRow w.heap.size 30 2 v' L.length (prC2 L) ∧ Below w.heap.size w w') := Lib.hid ⟨by simpa using h2, hba.grown h3 (by simp) (fun k hk => by simp [Value.ownBlock] at hk; omega)⟩
    clear h1 h2 h3 h4 hown hba hr
    generalize L.length = n at *
    go_enter Try.func29, Try.ntmps29
    go_wp2_with (refine arm_append 22 (.tmp 5) (.tmp 6) (v' := ?_) (w' := ?_) ?hr2 ?_; case hr2 => exact HRUN.out)
    go_ret
    exact ⟨v', rfl, HE.out⟩

set_option maxHeartbeats 1000000 in
theorem all_any (A : Option Addr) (c : Nat) (L : List Pr) (w : World) (hr : RdN w w.heap.size 2 A L.length (prC2 L)) (hl : (L.length : Int) ≤ 1000000) :
    Calls Try.prog 16 #[.agg #[.slice A L.length c]] w fun e w' => ∃ v, e = .returned v ∧ w'.ownsRow w.heap.size 30 2 v L.length (prC2 L) ∧ Below w.heap.size w w' := by
  have b1 : Below w.heap.size w (w.alloc (.cells #[.slice A L.length c] 35)) := (Below.refl _ _).alloc (Nat.le_refl _) _
  have HC := Lib.hid (clone_any A c L (w.alloc (.cells #[.slice A L.length c] 35)) ((hr.below b1).up b1.size) hl)
  generalize L.length = n at *
  clear hr
  go_enter Try.func16, Try.ntmps16
  go_wp2_with fail
  refine HC.out.mono ?_
  rintro e w2 ⟨v, rfl, ho, hb⟩
  have HE : Hid (w2.ownsRow w.heap.size 30 2 v n (prC2 L) ∧ Below w.heap.size w w2) := Lib.hid ⟨ownN_base ho b1.size, b1.trans (hb.mono b1.size)⟩
  clear ho hb
  go_wp2
  go_ret
  exact ⟨v, rfl, HE.out⟩

theorem les_lt : ∀ l, ∀ x ∈ les l, x < 256
  | [] => by intro x hx; cases hx
  | y :: r => by
    intro x hx
    rw [les, List.mem_append] at hx
    rcases hx with hx | hx
    · exact M.leB_lt _ _ x hx
    · exact les_lt r x hx
theorem pairB_lt (a : List Nat) (p : Pr) (h : okP p) : ∀ x ∈ pairB a p, x < 256 := by
  intro x hx
  unfold pairB at hx
  simp only [List.mem_append] at hx
  rcases hx with (((hx | hx) | hx) | hx) | hx
  · exact M.putB_lt _ x hx
  · exact M.putB_lt _ x hx
  · exact M.putB_lt _ x hx
  · exact h.1 x (List.mem_of_mem_drop hx)
  · exact h.2.1 x hx
theorem mkGo_lt : ∀ (L : List Pr) (i : Nat) (prev b st : List Nat), (∀ p ∈ L, okP p) → (∀ x ∈ b, x < 256) → ∀ x ∈ (mkGo i prev b st L).1, x < 256
  | [], i, prev, b, st, _, hb => by
    intro x hx
    rw [mkGo] at hx
    simp only [List.mem_append] at hx
    rcases hx with (hx | hx) | hx
    · exact hb x hx
    · exact les_lt _ x hx
    · exact M.leB_lt _ _ x hx
  | p :: r, i, prev, b, st, hL, hb => by
    rw [mkGo]
    split
    · intro x hx; cases hx
    · split
      · intro x hx; cases hx
      · refine mkGo_lt r _ _ _ _ (fun q hq => hL q (by simp [hq])) (fun x hx => ?_)
        rcases List.mem_append.1 hx with hx | hx
        · exact hb x hx
        · exact pairB_lt _ p (hL p (by simp)) x hx
theorem mk_bytes (L : List Pr) (h : ∀ p ∈ L, okP p) : ∀ x ∈ (mk L).1, x < 256 := mkGo_lt L 0 [] [] [] h (by simp)

def parL (bs : List Nat) : List Pr := if parseOk bs then (readM bs).1 else []

set_option maxHeartbeats 2000000 in
set_option maxRecDepth 100000 in
theorem parse_any (A : Option Addr) (n c : Nat) (bs : List Nat) (w : World) (hr : Rd w w.heap.size A n (bys bs)) (hb : ∀ c ∈ bs, c < 256) (hn : (n : Int) ≤ 1000000000) (hnc : n ≤ c) (hcm : c ≤ maxLen) :
    Calls Try.prog 14 #[.slice A n c] w fun e w' => ∃ v, e = .returned (.tuple #[.agg #[v], .int .i64 (if parseOk bs then 0 else 2)]) ∧ w'.ownsRow w.heap.size 30 2 v (parL bs).length (prC2 (parL bs)) ∧ Below w.heap.size w w' ∧ (∀ p ∈ parL bs, okP p) ∧ ((parL bs).length : Int) ≤ 262144 := by
  have HPO : Hid (parseOk bs = ((readM bs).2 && decide ((mk (readM bs).1).2 = 0) && decide ((mk (readM bs).1).1 = bs))) := Lib.hid rfl
  have HPL : Hid (parL bs = if parseOk bs then (readM bs).1 else []) := Lib.hid rfl
  obtain ⟨er, her⟩ : ∃ er : Int, er = if parseOk bs then 0 else 2 := ⟨_, rfl⟩
  rw [← her]
  have HER := Lib.hid her
  clear her
  obtain ⟨PL, hPL⟩ : ∃ PL, PL = parL bs := ⟨_, rfl⟩
  rw [← hPL] at HPL ⊢
  clear hPL
  obtain ⟨w1, hw1⟩ : ∃ w1, w1 = w.alloc (.cells #[.slice none 0 0] 35) := ⟨_, rfl⟩
  have b1 : Below w.heap.size w w1 := by rw [hw1]; exact (Below.refl _ _).alloc (Nat.le_refl _) _
  obtain ⟨g0, hg0⟩ : ∃ g0, g0 = w.heap.size := ⟨_, rfl⟩
  have c0 : w1.cell? ⟨g0, 0, none⟩ = some (.slice none 0 0) := by rw [hw1, hg0, World.cell?_alloc_mark]; rfl
  have f0 : w1.frozen? ⟨g0, 0, none⟩ = false := by rw [hw1, hg0]; unfold World.frozen?; rw [heap_alloc_new]; simp
  have z1 : g0 < w1.heap.size := World.block_lt_of_cell? _ _ c0
  have HRD := Lib.hid (read_any A n c bs w1 ((hr.below b1).up b1.size) hb hn hnc hcm)
  have HR := Lib.hid hr
  have HB := Lib.hid hb
  have HG := Lib.hid hg0
  have HB1 := Lib.hid b1
  have FIN := Lib.hid (fun (W : World) (hW : Below w1.heap.size w1 W) => (⟨(hW.cell (p := ⟨g0, 0, none⟩) z1).trans c0, (World.frozen?_of_block (w := w1) (a := ⟨g0, 0, none⟩) (hW.block g0 z1)).trans f0⟩ : W.cell? ⟨g0, 0, none⟩ = some (.slice none 0 0) ∧ W.frozen? ⟨g0, 0, none⟩ = false))
  have HZ1 := Lib.hid z1
  clear hr hb b1 c0 f0 z1
  go_enter Try.func14, Try.ntmps14
  go_upto_region 1 with fail
  rw [← hw1, ← hg0]
  clear hw1 hg0
  go_wp2_with fail
  refine HRD.out.mono ?_
  rintro e w2 ⟨v2, rfl, ho2, hb2, hok2, hl2⟩
  have HO2 := Lib.hid ho2
  have HB2 := Lib.hid hb2
  have HOK2 := Lib.hid hok2
  obtain ⟨A2, c2, rfl, _, _, hr2⟩ := own_rdN ho2
  have HMK := Lib.hid (make_any A2 c2 (readM bs).1 w2 hr2 hok2 (by omega))
  clear ho2 hb2 hok2 hr2 HRD
  generalize (readM bs).2 = rok at *
  generalize hLL : (readM bs).1 = LL at *
  have bad2 := fun (W : World) (hW : Below w1.heap.size w1 W) => HB1.out.trans (hW.mono HB1.out.size)
  have HBAD := Lib.hid bad2
  clear bad2 hLL
  cases rok with
  | false =>
    have hp : parseOk bs = false := by rw [HPO.out]; rfl
    rw [hp, if_neg (by simp)] at HPL HER
    obtain ⟨q0, q1⟩ := FIN.out w2 HB2.out
    have HZ : Hid (Below w.heap.size w (w2.setCell ⟨g0, 0, none⟩ (.slice none 0 0))) := Lib.hid ((HBAD.out w2 HB2.out).setCell (p := ⟨g0, 0, none⟩) (by rw [HG.out]; exact Nat.le_refl _) _)
    have HQ : Hid ((w2.setCell ⟨g0, 0, none⟩ (.slice none 0 0)).cell? ⟨g0, 0, none⟩ = some (.slice none 0 0)) := Lib.hid (World.cell?_setCell_same _ _ _ q0)
    clear HOK2 HO2 HMK hl2
    go_wp2
    have q2 := HQ.out
    refine bodyPost_ret (v := .tuple #[.agg #[.slice none 0 0], .int .i64 2]) (by simp [results, Try.results14, go_sem, q2]) rfl ?_
    rw [HER.out, HPL.out]
    exact ⟨_, rfl, World.ownsRow_nil _ _ _ _, HZ.out, by simp, by simp⟩
  | true =>
    go_wp2_with fail
    refine HMK.out.mono ?_
    rintro e w3 ⟨v3, rfl, hbf3, hb3⟩
    obtain ⟨A3, c3, rfl, _, hr3⟩ := hbf3.slice
    have HMB := Lib.hid (mk_bytes LL HOK2.out)
    have HBY := Lib.hid (fun W (hW : Below w.heap.size w W) => (HR.out.below hW).up hW.size)
    rw [show (mk LL).1.length = (mk LL).1.length from rfl] at hr3
    generalize hmk : mk LL = M' at *
    obtain ⟨mb, me⟩ := M'
    simp only at hr3 HMB HPO ⊢
    by_cases he : me = 0
    · subst he
      have HBW3 := Lib.hid (HB2.out.trans (hb3.mono HB2.out.size))
      obtain ⟨q0, q1⟩ := FIN.out w3 HBW3.out
      have HZ : Hid (Below w.heap.size w (w3.setCell ⟨g0, 0, none⟩ (.slice none 0 0))) := Lib.hid ((HBAD.out w3 HBW3.out).setCell (p := ⟨g0, 0, none⟩) (by rw [HG.out]; exact Nat.le_refl _) _)
      have HQ : Hid ((w3.setCell ⟨g0, 0, none⟩ (.slice none 0 0)).cell? ⟨g0, 0, none⟩ = some (.slice none 0 0)) := Lib.hid (World.cell?_setCell_same _ _ _ q0)
      have HEQ := Lib.hid (equal_any A3 A mb.length c3 n c mb bs w3 _ _ hr3 (HBY.out w3 (HBAD.out w3 HBW3.out)) HMB.out HB.out)
      generalize hmb : decide (mb = bs) = d at *
      clear hr3 hbf3 hmk HMK
      cases d with
      | false =>
        have hp : parseOk bs = false := by rw [HPO.out]; simp
        rw [hp, if_neg (by simp)] at HPL HER
        clear HOK2 HO2 hl2 hb3
        go_wp2_with fail
        refine HEQ.out.mono ?_
        rintro e w4 ⟨rfl, rfl⟩
        go_wp2
        have q2 := HQ.out
        refine bodyPost_ret (v := .tuple #[.agg #[.slice none 0 0], .int .i64 2]) (by simp [results, Try.results14, go_sem, q2]) rfl ?_
        rw [HER.out, HPL.out]
        exact ⟨_, rfl, World.ownsRow_nil _ _ _ _, HZ.out, by simp, by simp⟩
      | true =>
        have hp : parseOk bs = true := by rw [HPO.out]; simp
        rw [hp, if_pos rfl] at HPL HER
        have HQ3 : Hid ((w3.setCell ⟨g0, 0, none⟩ (.slice A2 LL.length c2)).cell? ⟨g0, 0, none⟩ = some (.slice A2 LL.length c2)) := Lib.hid (World.cell?_setCell_same _ _ _ q0)
        have HFN : Hid ((w3.setCell ⟨g0, 0, none⟩ (.slice A2 LL.length c2)).ownsRow w.heap.size 30 2 (.slice A2 LL.length c2) LL.length (prC2 LL) ∧ Below w.heap.size w (w3.setCell ⟨g0, 0, none⟩ (.slice A2 LL.length c2))) := Lib.hid (by
          refine ⟨ownN_base (ownN_keep HO2.out (fun k hk => ?_)) HB1.out.size, (HBAD.out w3 HBW3.out).setCell (p := ⟨g0, 0, none⟩) (by rw [HG.out]; exact Nat.le_refl _) _⟩
          have h1 := HO2.out.lt k hk
          have h2 := HZ1.out
          rw [Below.heap_setCell w3 ⟨g0, 0, none⟩ _ k (by show k ≠ g0; omega)]
          exact hb3.block k h1.2)
        clear HO2 hb3
        go_wp2_with fail
        refine HEQ.out.mono ?_
        rintro e w4 ⟨rfl, rfl⟩
        go_wp2
        have q2 := HQ3.out
        refine bodyPost_ret (v := .tuple #[.agg #[.slice A2 LL.length c2], .int .i64 0]) (by simp [results, Try.results14, go_sem, q2]) rfl ?_
        rw [HER.out, HPL.out]
        exact ⟨_, rfl, HFN.out.1, HFN.out.2, HOK2.out, hl2⟩
    · have hp : parseOk bs = false := by rw [HPO.out, decide_eq_false he]; simp
      rw [hp, if_neg (by simp)] at HPL HER
      have hne : ((me : Int) != 0) = true := by simp [bne]; omega
      have HBW3 := Lib.hid (HB2.out.trans (hb3.mono HB2.out.size))
      obtain ⟨q0, q1⟩ := FIN.out w3 HBW3.out
      have HZ : Hid (Below w.heap.size w (w3.setCell ⟨g0, 0, none⟩ (.slice none 0 0))) := Lib.hid ((HBAD.out w3 HBW3.out).setCell (p := ⟨g0, 0, none⟩) (by rw [HG.out]; exact Nat.le_refl _) _)
      have HQ : Hid ((w3.setCell ⟨g0, 0, none⟩ (.slice none 0 0)).cell? ⟨g0, 0, none⟩ = some (.slice none 0 0)) := Lib.hid (World.cell?_setCell_same _ _ _ q0)
      clear HOK2 HO2 HMK hl2 hb3 hr3 hbf3 hmk
      go_wp2
      have q2 := HQ.out
      refine bodyPost_ret (v := .tuple #[.agg #[.slice none 0 0], .int .i64 2]) (by simp [results, Try.results14, go_sem, q2]) rfl ?_
      rw [HER.out, HPL.out]
      exact ⟨_, rfl, World.ownsRow_nil _ _ _ _, HZ.out, by simp, by simp⟩
end Go.Proofs.Ytalcdmpjpphopaa
