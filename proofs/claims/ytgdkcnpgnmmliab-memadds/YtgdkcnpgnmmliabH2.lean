/- Entries that came in, opened; the law's big. -/
import Derived.Test.YtgdkcnpgnmmliabH1
import Derived.Test.YtgdkcnpgnmmliabOpenG
import Derived.Lib.SmallJoins
import Derived.OpenShut
import Derived.ShutString
import Derived.Deep.Fields
namespace Go.Proofs.Ytgdkcnpgnmmliab
set_option linter.unusedSimpArgs false
set_option linter.unusedVariables false
open Go.Joins Go.RowKit Go.ChangeShapes Go.WideShapes Go.Deep

/-- Four cells that read as a struct of four fields of one cell each. -/
theorem cells4 {H : Type} {enc : TypeId × Value → H} {P : Program} {w : World} {base : Nat} {sp : Nat → Bool} {held : Bool} {fuel : Nat} {t : TypeId} {f0 f1 f2 f3 : Field} {cs : List Value} {x : DataW H × List MemPlace}
    (hs : P.underlying t = some (.struct #[f0, f1, f2, f3])) (hone : oneCellFields P #[f0, f1, f2, f3] = true) (hC : P.cellsOf t = 4) (h : DataW.trod enc P w base sp held fuel t cs = some x) :
    ∃ (c0 c1 c2 c3 : Value) (y0 y1 y2 y3 : DataW H × List MemPlace) (n : Nat), cs = [c0, c1, c2, c3] ∧ DataW.trod enc P w base sp held n f0.type [c0] = some y0 ∧ DataW.trod enc P w base sp held n f1.type [c1] = some y1 ∧
      DataW.trod enc P w base sp held n f2.type [c2] = some y2 ∧ DataW.trod enc P w base sp held n f3.type [c3] = some y3 := by
  obtain ⟨ys, n, _, _, hcl, hyl, hf⟩ := DataW.trod_struct hs h
  rw [hC] at hcl
  have g : ∀ (i : Nat) (f : Field), (#[f0, f1, f2, f3] : Array Field)[i]? = some f → f.offset = i ∧ P.cellsOf f.type = 1 := hone_of hone
  obtain ⟨o0, k0⟩ := g 0 f0 rfl
  obtain ⟨o1, k1⟩ := g 1 f1 rfl
  obtain ⟨o2, k2⟩ := g 2 f2 rfl
  obtain ⟨o3, k3⟩ := g 3 f3 rfl
  have h0 := hf 0 f0 rfl
  have h1 := hf 1 f1 rfl
  have h2 := hf 2 f2 rfl
  have h3 := hf 3 f3 rfl
  rw [o0, k0] at h0
  rw [o1, k1] at h1
  rw [o2, k2] at h2
  rw [o3, k3] at h3
  match cs, hcl with
  | [c0, c1, c2, c3], _ =>
    match ys, hyl with
    | [y0, y1, y2, y3], _ => exact ⟨c0, c1, c2, c3, y0, y1, y2, y3, n, rfl, h0, h1, h2, h3⟩

/-- Of such a kind are the entries that come in. -/
def En.fit (x : En) : Prop := x.k.size ≤ maxLen ∧ x.v.size ≤ maxLen ∧ 0 ≤ x.S ∧ x.S ≤ 18446744073709551615
theorem flat_of (css : List (List Value)) (h : ∀ c ∈ css, (∃ x : En, x.fit ∧ c = x.cells) ∧ c.length = 4) : ∃ L : List En, L.length = css.length ∧ (∀ x ∈ L, x.fit) ∧ css.flatten = flat L := by
  induction css with
  | nil => exact ⟨[], rfl, by simp, rfl⟩
  | cons c r ih =>
    obtain ⟨hs, e1, e2, e3⟩ := ih (fun d hd => h d (by simp [hd]))
    obtain ⟨x, hx, rfl⟩ := (h c (by simp)).1
    exact ⟨x :: hs, by simp [e1], by simpa using ⟨hx, e2⟩, by rw [List.flatten_cons, e3, flat_cons]⟩
set_option maxRecDepth 100000 in
theorem open_ents {H : Type} {enc : TypeId × Value → H} {W : World} {b0 : Nat} {r : Reach} {v : Value} {d : DataW H} {ps : List MemPlace}
    (hv : Value.okWide Try.prog W r b0 35 v) (hd : DataW.Trod enc Try.prog W 0 (fun _ => true) true 35 v d ps) :
    ∃ (A : Option Addr) (c : Nat) (L : List En), v = .slice A L.length c ∧ RdN W W.heap.size 4 A L.length (flat L) ∧ (∀ x ∈ L, x.fit) ∧ L.length ≤ c ∧ c ≤ maxLen := by
  obtain ⟨A, n, c, rfl⟩ := okWide_slice Try.underlying35 hv
  obtain ⟨fuel, hf⟩ := hd
  obtain ⟨A', n', c', css, e, hl, hall, hr, h1, h2⟩ := open_sliceG (s := 4) (T := fun cs => ∃ x : En, x.fit ∧ cs = x.cells) Try.underlying35 (by kernel_rfl) (by omega) (fun fuel cs x h _ => by
    obtain ⟨c0, c1, c2, c3, y0, y1, y2, y3, n', rfl, h0, h1, h2, h3⟩ := cells4 Try.underlying42 (by kernel_rfl) (by kernel_rfl) h
    obtain ⟨s0, e0, _, m0⟩ := DataW.trod_string Try.underlying9 h0
    obtain ⟨s1, e1, _, m1⟩ := DataW.trod_int Try.underlying40 h1
    obtain ⟨s2, e2, _⟩ := DataW.trod_bool Try.underlying4 h2
    obtain ⟨s3, e3, _, m3⟩ := DataW.trod_string Try.underlying9 h3
    injection e0 with e0
    injection e1 with e1
    injection e2 with e2
    injection e3 with e3
    subst e0; subst e1; subst e2; subst e3
    have hb : 0 ≤ s1 ∧ s1 ≤ 18446744073709551615 := by simpa [Lit.wf, IntKind.min, IntKind.max, IntKind.signed, IntKind.bits] using m1
    exact ⟨⟨s0, s1, s2, s3⟩, ⟨m0, m3, hb.1, hb.2⟩, rfl⟩) hf
  simp [Value.cells] at e
  obtain ⟨rfl, rfl, rfl⟩ := e
  obtain ⟨L, e1, e2, e3⟩ := flat_of css hall
  rw [e3] at hr
  obtain rfl : n = L.length := by omega
  exact ⟨A, c, L, rfl, hr, e2, h1, h2⟩
set_option maxRecDepth 100000 in
theorem open_en {H : Type} {enc : TypeId × Value → H} {W : World} {base b0 : Nat} {sp : Nat → Bool} {held : Bool} {r : Reach} {v : Value} {d : DataW H} {ps : List MemPlace}
    (hv : Value.okWide Try.prog W r b0 42 v) (hd : DataW.Trod enc Try.prog W base sp held 42 v d ps) : ∃ x : En, v = x.val ∧ x.fit := by
  obtain ⟨v0, v1, v2, v3, y0, y1, y2, y3, n, rfl, _, _, h0, h1, h2, h3⟩ := open_agg4 Try.underlying42 (by kernel_rfl) (by kernel_rfl) hv hd
  obtain ⟨s0, e0, _, m0⟩ := DataW.trod_string Try.underlying9 h0
  obtain ⟨s1, e1, _, m1⟩ := DataW.trod_int Try.underlying40 h1
  obtain ⟨s2, e2, _⟩ := DataW.trod_bool Try.underlying4 h2
  obtain ⟨s3, e3, _, m3⟩ := DataW.trod_string Try.underlying9 h3
  injection e0 with e0
  injection e1 with e1
  injection e2 with e2
  injection e3 with e3
  subst e0; subst e1; subst e2; subst e3
  have hb : 0 ≤ s1 ∧ s1 ≤ 18446744073709551615 := by simpa [Lit.wf, IntKind.min, IntKind.max, IntKind.signed, IntKind.bits] using m1
  exact ⟨⟨s0, s1, s2, s3⟩, rfl, ⟨m0, m3, hb.1, hb.2⟩⟩

/-- .. the law passes such a list by. -/
def bigE (L : List En) : Bool := decide (60 < L.length) || L.any fun x => decide (200 < x.k.size) || decide (70000 < x.v.size)
theorem bigE_no (L : List En) (h : bigE L = false) : L.length ≤ 60 ∧ ∀ x ∈ L, x.k.size ≤ 200 ∧ x.v.size ≤ 70000 := by
  unfold bigE at h
  simp only [Bool.or_eq_false_iff, decide_eq_false_iff_not, List.any_eq_false, Bool.or_eq_true, decide_eq_true_eq, not_or] at h
  exact ⟨by omega, fun x hx => by have := h.2 x hx; omega⟩

set_option maxHeartbeats 1000000 in
theorem big_any (A : Option Addr) (c : Nat) (L : List En) (w : World) (hr : RdN w w.heap.size 4 A L.length (flat L)) (hf : ∀ x ∈ L, x.fit) (hlen : L.length ≤ maxLen) :
    Calls Try.prog 16 #[.slice A L.length c] w fun e w' => e = .returned (.bool (bigE L)) ∧ Below w.heap.size w w' := by
  unfold maxLen at hlen
  generalize hbg : bigE L = bg
  have HBG := Lib.hid hbg
  clear hbg
  have HR := Lib.hid hr
  have HF := Lib.hid hf
  clear hr hf
  by_cases h60 : 60 < L.length
  · have HB : Hid (bg = true) := Lib.hid (by rw [← HBG.out]; unfold bigE; simp [h60])
    generalize L.length = n at *
    go_enter Try.func16, Try.ntmps16
    go_wp2
    go_ret
    exact ⟨by rw [HB.out]; rfl, Below.refl _ _⟩
  · obtain ⟨n, hn⟩ : ∃ n, n = L.length := ⟨_, rfl⟩
    rw [← hn] at hlen h60 ⊢
    have HN := Lib.hid hn
    clear hn
    go_enter Try.func16, Try.ntmps16
    go_wp2
    go_loopg [4, 10] n (fun kx s4 s10 wr => ∃ i : Nat, i ≤ n ∧ s10 = .int .i64 i ∧ n - i ≤ kx ∧ Hid (Below w.heap.size w wr) ∧ Hid ((L.take i).any (fun x => decide (200 < x.k.size) || decide (70000 < x.v.size)) = false))
    case atStart => exact ⟨0, Nat.zero_le _, rfl, Nat.le_refl _, Lib.hid (Below.refl _ _), Lib.hid rfl⟩
    case round =>
      obtain ⟨i, hi, rfl, hk, HW, HI⟩ := hrel
      by_cases hlt : i < n
      · obtain ⟨y, hy⟩ : ∃ y, L[i]? = some y := ⟨_, List.getElem?_eq_getElem (by have := HN.out; omega)⟩
        have HY := Lib.hid hy
        have hfit := HF.out y (List.mem_of_getElem? hy)
        obtain ⟨g, off, rfl, hgb, c0, c1, c2, c3⟩ := (HR.out.below HW.out).ent i y hy
        have hk1 : y.k.size ≤ 9223372036854775807 := hfit.1
        have hv1 : y.v.size ≤ 9223372036854775807 := hfit.2.1
        clear hy hfit
        have hsz := HW.out.size
        go_upto_region 6 with fail
        generalize hw0 : wr.alloc (.cells #[.string y.k, .int .u64 y.S, .bool y.d, .string y.v] 42) = w0
        have b0 : Below wr.heap.size wr w0 := by rw [← hw0]; exact (Below.refl _ _).alloc (Nat.le_refl _) _
        have X0 : Bx4 w0 wr.heap.size (.string y.k) (.int .u64 y.S) (.bool y.d) (.string y.v) := by rw [← hw0]; exact Bx4.new wr _ _ _ _ _
        have HB := Lib.hid (HW.out.trans (b0.mono hsz))
        have x0 := X0.c0
        have x3 := X0.c3
        clear hw0 b0 X0 c0 c1 c2 c3
        by_cases hB : 200 < y.k.size ∨ 70000 < y.v.size
        · have HT : Hid (bg = true) := Lib.hid (by
            rw [← HBG.out]
            unfold bigE
            rw [Bool.or_eq_true]
            refine .inr (List.any_eq_true.2 ⟨y, List.mem_of_getElem? HY.out, ?_⟩)
            simp only [Bool.or_eq_true, decide_eq_true_eq]
            exact hB)
          rcases hB with hB | hB
          · have e1 : (200 : Int) < (y.k.size : Int) := by omega
            go_wp2
            go_ret
            exact ⟨by rw [HT.out]; rfl, HB.out⟩
          · by_cases hB2 : 200 < y.k.size
            · go_wp2
              go_ret
              exact ⟨by rw [HT.out]; rfl, HB.out⟩
            · go_wp2
              go_ret
              exact ⟨by rw [HT.out]; rfl, HB.out⟩
        · have e1 : ¬ 200 < y.k.size := fun h => hB (.inl h)
          have e2 : ¬ 70000 < y.v.size := fun h => hB (.inr h)
          clear hB
          go_wp2
          go_roundg (n - (i + 1))
          case measure => omega
          case rel =>
            refine ⟨i + 1, by omega, by go_num, Nat.le_refl _, HB, Lib.hid ?_⟩
            obtain ⟨hil, rfl⟩ := List.getElem?_eq_some_iff.1 HY.out
            rw [List.take_succ_eq_append_getElem hil, List.any_append, HI.out]
            simp
            omega
      · go_wp2
        go_ret
        refine ⟨?_, HW.out⟩
        rw [← HBG.out]
        unfold bigE
        have e : L.take i = L := List.take_of_length_le (by have := HN.out; omega)
        rw [← e, HI.out, e]
        simp
        have := HN.out
        omega
end Go.Proofs.Ytgdkcnpgnmmliab
