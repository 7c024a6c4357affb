/- The walk of KeyPuts. -/
import Derived.Test.YtahbhaphodgomacGetM
import Derived.Test.YtahbhaphodgomacEntIn
import Derived.Deep.Slices
import Derived.Deep.Fields
namespace Go.Proofs.Ytahbhaphodgomac
set_option linter.unusedSimpArgs false
set_option linter.unusedVariables false
open Go.RowKit Go.ChangeShapes Go.WideShapes Go.Deep

/-- An entry as data. -/
structure Ent where
  k : List Nat
  S : Nat
  d : Bool
  u : List Nat

def Ent.good (x : Ent) : Prop := (∀ c ∈ x.k, c < 256) ∧ (∀ c ∈ x.u, c < 256) ∧ x.k.length ≤ maxLen ∧ x.u.length ≤ maxLen ∧ x.S ≤ 18446744073709551615
def Ent.bytes (x : Ent) : List Nat := entB x.k x.S x.d x.u
def Ent.right (x : Ent) : Prop := ¬ isBig (strB x.k) (strB x.u) ∧ chk (strB x.k).size x.S x.d (strB x.u).size = 0

/-- The slice '.slice A n _' of entries reads as the list xs. -/
def RdE (w : World) (B : Nat) (A : Option Addr) (n : Nat) (xs : List Ent) : Prop :=
  xs.length = n ∧ (0 < n → ∃ g off, A = some ⟨g, off, none⟩ ∧ g < B ∧ ∀ (j : Nat) (x : Ent), xs[j]? = some x →
    w.cell? ⟨g, off + j * 4, none⟩ = some (.string (strB x.k)) ∧ w.cell? ⟨g, off + j * 4 + 1, none⟩ = some (.int .u64 (x.S : Int)) ∧
    w.cell? ⟨g, off + j * 4 + 2, none⟩ = some (.bool x.d) ∧ w.cell? ⟨g, off + j * 4 + 3, none⟩ = some (.string (strB x.u)))
theorem RdE.below {w w' : World} {B : Nat} {A : Option Addr} {n : Nat} {xs : List Ent} (h : RdE w B A n xs) (hb : Below B w w') : RdE w' B A n xs :=
  ⟨h.1, fun hn => by
    obtain ⟨g, off, e, hg, hc⟩ := h.2 hn
    refine ⟨g, off, e, hg, fun j x hx => ?_⟩
    obtain ⟨c0, c1, c2, c3⟩ := hc j x hx
    exact ⟨(hb.cell (p := ⟨g, _, none⟩) hg).trans c0, (hb.cell (p := ⟨g, _, none⟩) hg).trans c1, (hb.cell (p := ⟨g, _, none⟩) hg).trans c2, (hb.cell (p := ⟨g, _, none⟩) hg).trans c3⟩⟩

/-- Four cells that read as a struct of four fields of one cell each. -/
theorem cells4 {H : Type} {enc : TypeId × Value → H} {P : Program} {w : World} {base : Nat} {sp : Nat → Bool} {held : Bool} {fuel : Nat} {t : TypeId} {f0 f1 f2 f3 : Field} {cs : List Value} {x : DataW H × List MemPlace}
    (hs : P.underlying t = some (.struct #[f0, f1, f2, f3])) (hone : oneCellFields P #[f0, f1, f2, f3] = true) (hC : P.cellsOf t = 4) (h : DataW.trod enc P w base sp held fuel t cs = some x) :
    ∃ (c0 c1 c2 c3 : Value) (y0 y1 y2 y3 : DataW H × List MemPlace) (n : Nat), cs = [c0, c1, c2, c3] ∧ DataW.trod enc P w base sp held n f0.type [c0] = some y0 ∧ DataW.trod enc P w base sp held n f1.type [c1] = some y1 ∧
      DataW.trod enc P w base sp held n f2.type [c2] = some y2 ∧ DataW.trod enc P w base sp held n f3.type [c3] = some y3 := by
  obtain ⟨ys, n, _, _, hcl, hyl, hf⟩ := DataW.trod_struct hs h
  rw [hC] at hcl
  have g : ∀ (i : Nat) (f : Field), (#[f0, f1, f2, f3] : Array Field)[i]? = some f → f.offset = i ∧ P.cellsOf f.type = 1 := hone_of hone
  obtain ⟨o0, k0⟩ := g 0 f0 rfl
  obtain ⟨o1, k1⟩ := g 1 f1 rfl
  obtain ⟨o2, k2⟩ := g 2 f2 rfl
  obtain ⟨o3, k3⟩ := g 3 f3 rfl
  have h0 := hf 0 f0 rfl
  have h1 := hf 1 f1 rfl
  have h2 := hf 2 f2 rfl
  have h3 := hf 3 f3 rfl
  rw [o0, k0] at h0
  rw [o1, k1] at h1
  rw [o2, k2] at h2
  rw [o3, k3] at h3
  match cs, hcl with
  | [c0, c1, c2, c3], _ =>
    match ys, hyl with
    | [y0, y1, y2, y3], _ => exact ⟨c0, c1, c2, c3, y0, y1, y2, y3, n, rfl, h0, h1, h2, h3⟩

theorem open_ents {H : Type} {enc : TypeId × Value → H} {W : World} {b0 : Nat} {r : Reach} {v : Value} {d : DataW H} {ps : List MemPlace}
    (hv : Value.okWide Try.prog W r b0 38 v) (hd : DataW.Trod enc Try.prog W 0 (fun _ => true) true 38 v d ps) :
    ∃ (A : Option Addr) (n c : Nat) (xs : List Ent), v = .slice A n c ∧ RdE W W.heap.size A n xs ∧ (∀ x ∈ xs, x.good) ∧ n ≤ c ∧ c ≤ maxLen := by
  obtain ⟨A, n, c, rfl⟩ := okWide_slice Try.underlying38 hv
  obtain ⟨fuel, hf⟩ := hd
  have hcE : Try.prog.cellsOf 24 = 4 := by kernel_rfl
  rcases open_slice Try.underlying38 hf with ⟨hcs, _⟩ | ⟨a, len, cap, m, q, D, Pl, hcs, _, hl, hm, hmm, _, hi⟩
  · simp [Value.cells] at hcs
    obtain ⟨rfl, rfl, rfl⟩ := hcs
    exact ⟨none, 0, 0, [], rfl, ⟨rfl, fun h => absurd h (by omega)⟩, by simp, Nat.le_refl _, by unfold maxLen; omega⟩
  · simp [Value.cells] at hcs
    obtain ⟨rfl, rfl, rfl⟩ := hcs
    simp at hmm
    subst hmm
    have key : ∀ i, i < m → ∃ x : Ent, x.good ∧ W.cell? (a.add (i * 4)) = some (.string (strB x.k)) ∧ W.cell? ((a.add (i * 4)).add 1) = some (.int .u64 (x.S : Int)) ∧
        W.cell? ((a.add (i * 4)).add 2) = some (.bool x.d) ∧ W.cell? ((a.add (i * 4)).add 3) = some (.string (strB x.u)) := by
      intro i him
      obtain ⟨cs', hc, ht'⟩ := hi i him
      rw [hcE] at hc
      obtain ⟨_, _, hat⟩ := World.cells?_some hc
      obtain ⟨c0, c1, c2, c3, y0, y1, y2, y3, n', rfl, h0, h1, h2, h3⟩ := cells4 Try.underlying24 (by kernel_rfl) (by kernel_rfl) ht'
      obtain ⟨s0, e0, _, m0⟩ := DataW.trod_string Try.underlying9 h0
      obtain ⟨s1, e1, _, m1⟩ := DataW.trod_int Try.underlying22 h1
      obtain ⟨s2, e2, _⟩ := DataW.trod_bool Try.underlying4 h2
      obtain ⟨s3, e3, _, m3⟩ := DataW.trod_string Try.underlying9 h3
      injection e0 with e0
      injection e1 with e1
      injection e2 with e2
      injection e3 with e3
      subst e0; subst e1; subst e2; subst e3
      obtain ⟨k, rfl, hk⟩ := str_of s0
      obtain ⟨u, rfl, hu⟩ := str_of s3
      rw [strB_size] at m0 m3
      have hb : 0 ≤ s1 ∧ s1 ≤ 18446744073709551615 := by simpa [Lit.wf, IntKind.min, IntKind.max, IntKind.signed, IntKind.bits] using m1
      obtain ⟨S, rfl⟩ : ∃ S : Nat, s1 = (S : Int) := ⟨s1.toNat, by omega⟩
      have q0 := hat 0 (by omega)
      have q1 := hat 1 (by omega)
      have q2 := hat 2 (by omega)
      have q3 := hat 3 (by omega)
      have ea : (a.add (i * 4)).add 0 = a.add (i * 4) := by cases a; simp [Addr.add]
      rw [ea] at q0
      have hSS : S ≤ 18446744073709551615 := by have := hb.2; omega
      exact ⟨⟨k, S, s2, u⟩, ⟨hk, hu, m0, m3, hSS⟩, q0, q1, q2, q3⟩
    have hex : ∃ xs : List Ent, xs.length = n ∧ ∀ (j : Nat) (x : Ent), xs[j]? = some x → x.good ∧ W.cell? (a.add (j * 4)) = some (.string (strB x.k)) ∧ W.cell? ((a.add (j * 4)).add 1) = some (.int .u64 (x.S : Int)) ∧
        W.cell? ((a.add (j * 4)).add 2) = some (.bool x.d) ∧ W.cell? ((a.add (j * 4)).add 3) = some (.string (strB x.u)) := by
      have step : ∀ q, q ≤ n → ∃ xs : List Ent, xs.length = q ∧ ∀ (j : Nat) (x : Ent), xs[j]? = some x → x.good ∧ W.cell? (a.add (j * 4)) = some (.string (strB x.k)) ∧ W.cell? ((a.add (j * 4)).add 1) = some (.int .u64 (x.S : Int)) ∧
          W.cell? ((a.add (j * 4)).add 2) = some (.bool x.d) ∧ W.cell? ((a.add (j * 4)).add 3) = some (.string (strB x.u)) := by
        intro q
        induction q with
        | zero => intro _; exact ⟨[], rfl, fun j x h => by simp at h⟩
        | succ q ih =>
          intro hq
          obtain ⟨xs, hxl, hx⟩ := ih (by omega)
          obtain ⟨y, hy⟩ := key q (by omega)
          refine ⟨xs ++ [y], by simp [hxl], fun j x h => ?_⟩
          by_cases hj : j < xs.length
          · rw [List.getElem?_append_left hj] at h; exact hx j x h
          · rw [List.getElem?_append_right (by omega)] at h
            have hj0 : j - xs.length = 0 := by
              have := (List.getElem?_eq_some_iff.1 h).1
              simp at this; omega
            rw [hj0] at h
            simp at h
            subst h
            have : j = q := by omega
            subst this
            exact hy
      exact step n (Nat.le_refl _)
    obtain ⟨xs, hxl, hx⟩ := hex
    refine ⟨some a, n, _, xs, rfl, ⟨hxl, fun hn => ?_⟩, fun x hx' => ?_, hl, hm⟩
    · have h0 := (hx 0 _ (List.getElem?_eq_getElem (by omega))).2.1
      obtain ⟨b, off, rfl⟩ : ∃ b off, a = ⟨b, off, none⟩ := by
        obtain ⟨b, off, spot⟩ := a
        have hspot : spot = none := by simpa [Addr.add] using World.cell?_spot h0
        subst hspot
        exact ⟨b, off, rfl⟩
      refine ⟨b, off, rfl, World.block_lt_of_cell? _ _ h0, fun j x hj => ?_⟩
      obtain ⟨_, r0, r1, r2, r3⟩ := hx j x hj
      simp only [Addr.add_lit] at r0 r1 r2 r3
      exact ⟨r0, r1, r2, r3⟩
    · obtain ⟨j, hj, rfl⟩ := List.mem_iff_getElem.1 hx'
      exact (hx j _ (List.getElem?_eq_getElem hj)).1
end Go.Proofs.Ytahbhaphodgomac
