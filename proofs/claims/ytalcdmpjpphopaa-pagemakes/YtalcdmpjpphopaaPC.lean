/- Pairs that came in, opened; the law's big and same. -/
import Derived.Test.YtalcdmpjpphopaaPB
import Derived.Lib.SmallJoins
import Derived.OpenShut
import Derived.ShutString
import Derived.Deep.Fields
import Derived.Laws.StructEq
namespace Go.Proofs.Ytalcdmpjpphopaa
set_option linter.unusedSimpArgs false
set_option linter.unusedVariables false
open Go.Joins Go.RowKit Go.ChangeShapes Go.WideShapes Go.Deep

/-- Two cells that read as a struct of two fields of one cell each. -/
theorem cells2 {H : Type} {enc : TypeId × Value → H} {P : Program} {w : World} {base : Nat} {sp : Nat → Bool} {held : Bool} {fuel : Nat} {t : TypeId} {f0 f1 : Field} {cs : List Value} {x : DataW H × List MemPlace}
    (hs : P.underlying t = some (.struct #[f0, f1])) (hone : oneCellFields P #[f0, f1] = true) (hC : P.cellsOf t = 2) (h : DataW.trod enc P w base sp held fuel t cs = some x) :
    ∃ (c0 c1 : Value) (y0 y1 : DataW H × List MemPlace) (n : Nat), cs = [c0, c1] ∧ DataW.trod enc P w base sp held n f0.type [c0] = some y0 ∧ DataW.trod enc P w base sp held n f1.type [c1] = some y1 := by
  obtain ⟨ys, n, _, _, hcl, hyl, hf⟩ := DataW.trod_struct hs h
  rw [hC] at hcl
  have g : ∀ (i : Nat) (f : Field), (#[f0, f1] : Array Field)[i]? = some f → f.offset = i ∧ P.cellsOf f.type = 1 := hone_of hone
  obtain ⟨o0, k0⟩ := g 0 f0 rfl
  obtain ⟨o1, k1⟩ := g 1 f1 rfl
  have h0 := hf 0 f0 rfl
  have h1 := hf 1 f1 rfl
  rw [o0, k0] at h0
  rw [o1, k1] at h1
  match cs, hcl with
  | [c0, c1], _ =>
    match ys, hyl with
    | [y0, y1], _ => exact ⟨c0, c1, y0, y1, n, rfl, h0, h1⟩

def fitP (p : Pr) : Prop := (∀ x ∈ p.1, x < 256) ∧ (∀ x ∈ p.2, x < 256) ∧ p.1.length ≤ maxLen ∧ p.2.length ≤ maxLen
theorem prs_of (css : List (List Value)) (h : ∀ c ∈ css, (∃ p : Pr, fitP p ∧ c = prC p) ∧ c.length = 2) : ∃ L : List Pr, L.length = css.length ∧ (∀ p ∈ L, fitP p) ∧ css.flatten = prC2 L := by
  induction css with
  | nil => exact ⟨[], rfl, by simp, rfl⟩
  | cons c r ih =>
    obtain ⟨hs, e1, e2, e3⟩ := ih (fun d hd => h d (by simp [hd]))
    obtain ⟨x, hx, rfl⟩ := (h c (by simp)).1
    refine ⟨x :: hs, by simp [e1], ?_, by rw [List.flatten_cons, e3]; rfl⟩
    intro p hp
    rcases List.mem_cons.1 hp with rfl | hp
    · exact hx
    · exact e2 p hp
set_option maxRecDepth 100000 in
theorem open_prs {H : Type} {enc : TypeId × Value → H} {W : World} {b0 : Nat} {r : Reach} {v : Value} {d : DataW H} {ps : List MemPlace}
    (hv : Value.okWide Try.prog W r b0 22 v) (hd : DataW.Trod enc Try.prog W 0 (fun _ => true) true 22 v d ps) :
    ∃ (A : Option Addr) (c : Nat) (L : List Pr), v = .slice A L.length c ∧ RdN W W.heap.size 2 A L.length (prC2 L) ∧ (∀ p ∈ L, fitP p) ∧ L.length ≤ c ∧ c ≤ maxLen := by
  obtain ⟨A, n, c, rfl⟩ := okWide_slice Try.underlying22 hv
  obtain ⟨fuel, hf⟩ := hd
  obtain ⟨A', n', c', css, e, hl, hall, hr, h1, h2⟩ := open_sliceG (s := 2) (T := fun cs => ∃ p : Pr, fitP p ∧ cs = prC p) Try.underlying22 (by kernel_rfl) (by omega) (fun fuel cs x h _ => by
    obtain ⟨c0, c1, y0, y1, n', rfl, h0, h1⟩ := cells2 Try.underlying30 (by kernel_rfl) (by kernel_rfl) h
    obtain ⟨s0, e0, _, m0⟩ := DataW.trod_string Try.underlying9 h0
    obtain ⟨s1, e1, _, m1⟩ := DataW.trod_string Try.underlying9 h1
    injection e0 with e0
    injection e1 with e1
    subst e0; subst e1
    obtain ⟨b0, rfl, hb0⟩ := str_of s0
    obtain ⟨b1, rfl, hb1⟩ := str_of s1
    exact ⟨(b0, b1), ⟨hb0, hb1, by rwa [strB_size] at m0, by rwa [strB_size] at m1⟩, rfl⟩) hf
  simp [Value.cells] at e
  obtain ⟨rfl, rfl, rfl⟩ := e
  obtain ⟨L, e1, e2, e3⟩ := prs_of css hall
  rw [e3] at hr
  obtain rfl : n = L.length := by omega
  exact ⟨A, c, L, rfl, hr, e2, h1, h2⟩

def bigP (L : List Pr) : Bool := decide (60 < L.length) || L.any fun p => decide (300 < p.1.length) || decide (300 < p.2.length)
theorem bigP_no (L : List Pr) (h : bigP L = false) : L.length ≤ 60 ∧ ∀ p ∈ L, p.1.length ≤ 300 ∧ p.2.length ≤ 300 := by
  unfold bigP at h
  simp only [Bool.or_eq_false_iff, decide_eq_false_iff_not, List.any_eq_false, Bool.or_eq_true, decide_eq_true_eq, not_or] at h
  exact ⟨by omega, fun x hx => by have := h.2 x hx; omega⟩

set_option maxHeartbeats 1000000 in
theorem big_any'' (A : Option Addr) (c : Nat) (L : List Pr) (w : World) (hr : RdN w w.heap.size 2 A L.length (prC2 L)) (hf : ∀ p ∈ L, fitP p) (hlen : L.length ≤ maxLen) :
    Calls Try.prog 10 #[.slice A L.length c] w fun e w' => e = .returned (.bool (bigP L)) ∧ Below w.heap.size w w' := by
  unfold maxLen at hlen
  generalize hbg : bigP L = bg
  have HBG := Lib.hid hbg
  clear hbg
  have HR := Lib.hid hr
  have HF := Lib.hid hf
  clear hr hf
  by_cases h60 : 60 < L.length
  · have HB : Hid (bg = true) := Lib.hid (by rw [← HBG.out]; unfold bigP; simp [h60])
    generalize L.length = n at *
    go_enter Try.func10, Try.ntmps10
    go_wp2
    go_ret
    exact ⟨by rw [HB.out]; rfl, Below.refl _ _⟩
  · obtain ⟨n, hn⟩ : ∃ n, n = L.length := ⟨_, rfl⟩
    rw [← hn] at hlen h60 ⊢
    have HN := Lib.hid hn
    clear hn
    go_enter Try.func10, Try.ntmps10
    go_wp2
    go_loopg [4, 10] n (fun kx s4 s10 wr => ∃ i : Nat, i ≤ n ∧ s10 = .int .i64 i ∧ n - i ≤ kx ∧ Hid (Below w.heap.size w wr) ∧ Hid ((L.take i).any (fun p => decide (300 < p.1.length) || decide (300 < p.2.length)) = false))
    case atStart => exact ⟨0, Nat.zero_le _, rfl, Nat.le_refl _, Lib.hid (Below.refl _ _), Lib.hid rfl⟩
    case round =>
      obtain ⟨i, hi, rfl, hk, HW, HI⟩ := hrel
      by_cases hlt : i < n
      · obtain ⟨y, hy⟩ : ∃ y, L[i]? = some y := ⟨_, List.getElem?_eq_getElem (by have := HN.out; omega)⟩
        have HY := Lib.hid hy
        have hfit := HF.out y (List.mem_of_getElem? hy)
        obtain ⟨g, off, rfl, hgb, c0, c1⟩ := (HR.out.below HW.out).pr i y hy
        have hk1 : y.1.length ≤ 9223372036854775807 := hfit.2.2.1
        have hv1 : y.2.length ≤ 9223372036854775807 := hfit.2.2.2
        have hz1 := strB_size y.1
        have hz2 := strB_size y.2
        clear hy hfit
        have hsz := HW.out.size
        go_upto_region 6 with fail
        generalize hw0 : wr.alloc (.cells #[.string (strB y.1), .string (strB y.2)] 30) = w0
        have b0 : Below wr.heap.size wr w0 := by rw [← hw0]; exact (Below.refl _ _).alloc (Nat.le_refl _) _
        have X0 : Bx2 w0 wr.heap.size (.string (strB y.1)) (.string (strB y.2)) := by rw [← hw0]; exact Bx2.new wr _ _ _
        have HB := Lib.hid (HW.out.trans (b0.mono hsz))
        have x0 := X0.c0
        have x3 := X0.c1
        clear hw0 b0 X0 c0 c1
        by_cases hB : 300 < y.1.length ∨ 300 < y.2.length
        · have HT : Hid (bg = true) := Lib.hid (by
            rw [← HBG.out]
            unfold bigP
            rw [Bool.or_eq_true]
            refine .inr (List.any_eq_true.2 ⟨y, List.mem_of_getElem? HY.out, ?_⟩)
            simp only [Bool.or_eq_true, decide_eq_true_eq]
            exact hB)
          rcases hB with hB | hB
          · have e1 : (300 : Int) < (y.1.length : Int) := by omega
            go_wp2
            go_ret
            exact ⟨by rw [HT.out]; rfl, HB.out⟩
          · by_cases hB2 : 300 < y.1.length
            · go_wp2
              go_ret
              exact ⟨by rw [HT.out]; rfl, HB.out⟩
            · go_wp2
              go_ret
              exact ⟨by rw [HT.out]; rfl, HB.out⟩
        · have e1 : ¬ 300 < y.1.length := fun h => hB (.inl h)
          have e2 : ¬ 300 < y.2.length := fun h => hB (.inr h)
          clear hB
          go_wp2
          go_roundg (n - (i + 1))
          case measure => omega
          case rel =>
            refine ⟨i + 1, by omega, by go_num, Nat.le_refl _, HB, Lib.hid ?_⟩
            obtain ⟨hil, rfl⟩ := List.getElem?_eq_some_iff.1 HY.out
            rw [List.take_succ_eq_append_getElem hil, List.any_append, HI.out]
            simp
            omega
      · go_wp2
        go_ret
        refine ⟨?_, HW.out⟩
        rw [← HBG.out]
        unfold bigP
        have e : L.take i = L := List.take_of_length_le (by have := HN.out; omega)
        rw [← e, HI.out, e]
        simp
        have := HN.out
        omega

theorem stP : Try.prog.underlying 30 = some (.struct (Try.prog.fieldsOf 30)) := by kernel_rfl
theorem spP : Try.prog.stoodInHeld 30 = false := by kernel_rfl
def eqP (x y : Pr) : Bool := ((strB x.1).toList == (strB y.1).toList) && ((strB x.2).toList == (strB y.2).toList)
theorem eqP_eq (x y : Pr) (hx : (∀ c ∈ x.1, c < 256) ∧ ∀ c ∈ x.2, c < 256) (hy : (∀ c ∈ y.1, c < 256) ∧ ∀ c ∈ y.2, c < 256) : eqP x y = decide (x = y) := by
  unfold eqP
  rw [strB_beq _ _ hx.1 hy.1, strB_beq _ _ hx.2 hy.2]
  obtain ⟨a, b⟩ := x
  obtain ⟨a', b'⟩ := y
  by_cases h1 : a = a' <;> by_cases h2 : b = b' <;> simp [h1, h2]
theorem equalInP (d : Nat) (x y : Pr) (w : World) : (Op.equalIn (d + 2) 30 (prV x) (prV y)).run Try.prog w = .ok (eqP x y) w := by
  have u9 := Try.underlying9
  unfold prV
  rw [run_equalIn_agg w (d + 1) 30 _ _ stP spP]
  simp only [Program.fieldsOf, Try.underlying30]
  unfold eqP
  go_simp
  by_cases h1 : (strB x.1).toList = (strB y.1).toList <;> by_cases h2 : (strB x.2).toList = (strB y.2).toList <;> simp [h1, h2]
theorem neqP (x y : Pr) (w : World) : (binOp .neq 30 (prV x) (prV y)).run Try.prog w = .ok (.bool (!eqP x y)) w := by
  have h : (Op.equalIn 10000 30 (prV x) (prV y)).run Try.prog w = .ok (eqP x y) w := equalInP 9998 x y w
  unfold prV at h ⊢
  rw [run_neq_struct, h]; rfl

set_option maxHeartbeats 2000000 in
set_option maxRecDepth 100000 in
theorem same_any (A A' : Option Addr) (c c' : Nat) (L L' : List Pr) (w : World) (hr : RdN w w.heap.size 2 A L.length (prC2 L)) (hr' : RdN w w.heap.size 2 A' L'.length (prC2 L')) (hf : ∀ p ∈ L, (∀ x ∈ p.1, x < 256) ∧ ∀ x ∈ p.2, x < 256) (hf' : ∀ p ∈ L', (∀ x ∈ p.1, x < 256) ∧ ∀ x ∈ p.2, x < 256) (hl : (L.length : Int) ≤ 1000000) (hl' : (L'.length : Int) ≤ 1000000) :
    Calls Try.prog 15 #[.slice A L.length c, .slice A' L'.length c'] w fun e w' => e = .returned (.bool (decide (L = L'))) ∧ Below w.heap.size w w' := by
  by_cases hne : L.length = L'.length
  · obtain ⟨n, hn⟩ : ∃ n, n = L.length := ⟨_, rfl⟩
    have HN := Lib.hid hn
    have HN' : Hid (n = L'.length) := Lib.hid (hn.trans hne)
    rw [← hne, ← hn]
    rw [← hn] at hl
    have HR := Lib.hid hr
    have HR' := Lib.hid hr'
    obtain ⟨D, hD⟩ : ∃ D, D = decide (L = L') := ⟨_, rfl⟩
    rw [← hD]
    have HD := Lib.hid hD
    clear hn hne hl' hD hr hr'
    go_enter Try.func15, Try.ntmps15
    go_upto_region 4 with fail
    go_loopg [5, 13] n (fun kx v5 v13 wr => ∃ i : Nat, i ≤ n ∧ kx = n - i ∧ v13 = .int .i64 (i : Int) ∧ Hid (Below w.heap.size w wr ∧ L.take i = L'.take i))
    case atStart => exact ⟨0, Nat.zero_le _, rfl, rfl, Lib.hid ⟨Below.refl _ _, rfl⟩⟩
    case round =>
      obtain ⟨i, hi, hkx, rfl, HI⟩ := hrel
      have HX := Lib.hid hkx
      clear hkx
      by_cases hlt : i < n
      · have hlt' : (i : Int) < (n : Int) := by omega
        obtain ⟨p, hp⟩ : ∃ p, L[i]? = some p := ⟨_, List.getElem?_eq_getElem (by have := HN.out; omega)⟩
        obtain ⟨q, hq⟩ : ∃ q, L'[i]? = some q := ⟨_, List.getElem?_eq_getElem (by have := HN'.out; omega)⟩
        obtain ⟨g, off, rfl, _, c0, c1⟩ := (HR.out.below HI.out.1).pr i p hp
        obtain ⟨g', off', rfl, _, d0, d1⟩ := (HR'.out.below HI.out.1).pr i q hq
        have hqe := eqP_eq p q (hf p (List.mem_of_getElem? hp)) (hf' q (List.mem_of_getElem? hq))
        have hnq := fun W => neqP p q W
        rw [hqe] at hnq
        unfold prV at hnq
        have HP := Lib.hid hp
        have HQ := Lib.hid hq
        by_cases he : p = q
        · rw [decide_eq_true he] at hnq
          have HE := Lib.hid he
          clear he hqe hp hq
          go_upto_region 6 with fail
          go_quiet (fail)
          go_wp2
          go_roundg (n - (i + 1))
          case measure => have := HX.out; omega
          case rel =>
            refine ⟨i + 1, by omega, rfl, by go_num, Lib.hid ⟨HI.out.1.trans ((below_drewN _ _).mono HI.out.1.size), ?_⟩⟩
            rw [List.take_add_one, List.take_add_one, HI.out.2, HP.out, HQ.out, HE.out]
        · rw [decide_eq_false he] at hnq
          have HE := Lib.hid he
          have HDF : Hid (D = false) := Lib.hid (by
            rw [HD.out]
            refine decide_eq_false fun e => HE.out ?_
            have h1 := HP.out
            rw [e, HQ.out] at h1
            injection h1 with h1
            exact h1.symm)
          clear he hqe hp hq
          go_upto_region 6 with fail
          go_quiet (fail)
          go_wp2
          go_ret
          exact ⟨by rw [HDF.out]; rfl, HI.out.1.trans ((below_drewN _ _).mono HI.out.1.size)⟩
      · obtain rfl : i = n := by omega
        have HDT : Hid (D = true) := Lib.hid (by
          rw [HD.out]
          refine decide_eq_true ?_
          have := HI.out.2
          rwa [List.take_of_length_le (by have := HN.out; omega), List.take_of_length_le (by have := HN'.out; omega)] at this)
        go_wp2
        go_ret
        exact ⟨by rw [HDT.out]; rfl, HI.out.1⟩
  · have hd : decide (L = L') = false := decide_eq_false (fun e => hne (by rw [e]))
    rw [hd]
    have hni : ((L.length : Int) != (L'.length : Int)) = true := by simp [bne]; omega
    generalize L.length = n at *
    generalize L'.length = n' at *
    clear hd hr hr' hf hf' hne
    go_enter Try.func15, Try.ntmps15
    go_wp2
    go_ret
    exact ⟨rfl, Below.refl _ _⟩
end Go.Proofs.Ytalcdmpjpphopaa
