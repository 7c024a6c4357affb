/- Entries as data; a list of entries that came in, opened; entries held against each other. -/
import Derived.Test.YtalcdmpjpphopaaInnM
import Derived.Test.YtalcdmpjpphopaaChkM
import Derived.Test.YtalcdmpjpphopaaRowN
import Derived.Test.YtalcdmpjpphopaaOpenG
import Derived.Lib.SmallJoins
import Derived.OpenShut
import Derived.ShutString
import Derived.Deep.Fields
import Derived.Laws.StructEq
namespace Go.Proofs.Ytalcdmpjpphopaa
set_option linter.unusedSimpArgs false
set_option linter.unusedVariables false
open Go.RowKit Go.Joins Go.ChangeShapes Go.WideShapes Go.Deep

/-- An entry as data. -/
structure En where
  k : ByteArray
  S : Int
  d : Bool
  v : ByteArray
def En.cells (x : En) : List Value := [.string x.k, .int .u64 x.S, .bool x.d, .string x.v]
abbrev En.val (x : En) : Value := ent x.k x.S x.d x.v
def flat (L : List En) : List Value := L.flatMap En.cells
def cmpE (x y : En) : Int := cE x.k x.S y.k y.S
theorem En.cells_len (x : En) : x.cells.length = 4 := rfl
theorem En.one (x : En) : ∀ v ∈ x.cells, v.oneCell' = true := by
  intro v hv
  simp [En.cells] at hv
  rcases hv with rfl | rfl | rfl | rfl <;> rfl
theorem flat_length (L : List En) : (flat L).length = L.length * 4 := by
  unfold flat
  induction L with
  | nil => rfl
  | cons a L ih => rw [List.flatMap_cons, List.length_append, ih, En.cells_len, List.length_cons]; omega
theorem flat_append (L M : List En) : flat (L ++ M) = flat L ++ flat M := by unfold flat; rw [List.flatMap_append]
theorem flat_cons (x : En) (M : List En) : flat (x :: M) = x.cells ++ flat M := by unfold flat; rw [List.flatMap_cons]
theorem flat_take (L : List En) (i : Nat) (hi : i ≤ L.length) : (flat L).take (i * 4) = flat (L.take i) := by
  conv => lhs; rw [← List.take_append_drop i L]
  have h : (flat (L.take i)).length = i * 4 := by rw [flat_length, List.length_take, Nat.min_eq_left hi]
  rw [flat_append, List.take_append_of_le_length (by omega), List.take_of_length_le (by omega)]
theorem flat_drop (L : List En) (i : Nat) (hi : i ≤ L.length) : (flat L).drop (i * 4) = flat (L.drop i) := by
  conv => lhs; rw [← List.take_append_drop i L]
  have h : (flat (L.take i)).length = i * 4 := by rw [flat_length, List.length_take, Nat.min_eq_left hi]
  rw [flat_append, List.drop_append, List.drop_eq_nil_of_le (by omega), h, Nat.sub_self]; rfl
theorem flat_one (L : List En) : ∀ v ∈ flat L, v.oneCell' = true := by
  intro v hv
  unfold flat at hv
  obtain ⟨x, _, hx⟩ := List.mem_flatMap.1 hv
  exact x.one v hx
theorem flat_get (L : List En) (i : Nat) (x : En) (h : L[i]? = some x) (j : Nat) (u : Value) (hu : x.cells[j]? = some u) : (flat L)[i * 4 + j]? = some u := by
  obtain ⟨hi, rfl⟩ := List.getElem?_eq_some_iff.1 h
  have h4 : j < 4 := by have := (List.getElem?_eq_some_iff.1 hu).1; rwa [En.cells_len] at this
  have e : (flat L).drop (i * 4) = L[i].cells ++ flat (L.drop (i + 1)) := by
    rw [flat_drop L i (by omega), List.drop_eq_getElem_cons hi, flat_cons]
  have := congrArg (fun l => l[j]?) e
  simp only [List.getElem?_drop] at this
  rw [this, List.getElem?_append_left (by rw [En.cells_len]; exact h4)]
  exact hu

theorem cmpE_zero (x y : En) : cmpE x y = 0 ↔ x.k = y.k ∧ x.S = y.S := by
  unfold cmpE
  constructor
  · intro h
    rcases stand x.k y.k x.S y.S with k | k | k | k | k
    · rw [k.2.2.1] at h; cases h
    · rw [k.2.2.1] at h; cases h
    · rw [k.2.2.1] at h; cases h
    · rw [k.2.2.1] at h; cases h
    · exact ⟨k.1, k.2.1⟩
  · rintro ⟨h, k⟩
    rw [h, k]
    unfold cE cS cU
    simp [less_irrefl]

theorem cmp_en (x y : En) (w : World) : Calls Try.prog 19 #[x.val, y.val] w fun e w' => e = .returned (.int .i64 (cmpE x y)) ∧ Below w.heap.size w w' := cmp_any x.k x.S x.d x.v y.k y.S y.d y.v w
/-- Entry i of a slice that reads as L, cell by cell. -/
theorem RdN.ent {w : World} {B : Nat} {A : Option Addr} {L : List En} (h : RdN w B 4 A L.length (flat L)) (i : Nat) (y : En) (hy : L[i]? = some y) : ∃ g off, A = some ⟨g, off, none⟩ ∧ g < B ∧
    w.cell? ⟨g, off + i * 4, none⟩ = some (.string y.k) ∧ w.cell? ⟨g, off + i * 4 + 1, none⟩ = some (.int .u64 y.S) ∧ w.cell? ⟨g, off + i * 4 + 2, none⟩ = some (.bool y.d) ∧ w.cell? ⟨g, off + i * 4 + 3, none⟩ = some (.string y.v) := by
  have hi : i < L.length := (List.getElem?_eq_some_iff.1 hy).1
  obtain ⟨g, off, e, hg, hc⟩ := h.at_ (by omega)
  have f := fun j u hu => hc (i * 4 + j) u (flat_get L i y hy j u hu)
  exact ⟨g, off, e, hg, by have := f 0 _ rfl; rwa [Nat.add_zero] at this, by have := f 1 _ rfl; rwa [← Nat.add_assoc] at this, by have := f 2 _ rfl; rwa [← Nat.add_assoc] at this, by have := f 3 _ rfl; rwa [← Nat.add_assoc] at this⟩

/-- Four cells that read as a struct of four fields of one cell each. -/
theorem cells4 {H : Type} {enc : TypeId × Value → H} {P : Program} {w : World} {base : Nat} {sp : Nat → Bool} {held : Bool} {fuel : Nat} {t : TypeId} {f0 f1 f2 f3 : Field} {cs : List Value} {x : DataW H × List MemPlace}
    (hs : P.underlying t = some (.struct #[f0, f1, f2, f3])) (hone : oneCellFields P #[f0, f1, f2, f3] = true) (hC : P.cellsOf t = 4) (h : DataW.trod enc P w base sp held fuel t cs = some x) :
    ∃ (c0 c1 c2 c3 : Value) (y0 y1 y2 y3 : DataW H × List MemPlace) (n : Nat), cs = [c0, c1, c2, c3] ∧ DataW.trod enc P w base sp held n f0.type [c0] = some y0 ∧ DataW.trod enc P w base sp held n f1.type [c1] = some y1 ∧
      DataW.trod enc P w base sp held n f2.type [c2] = some y2 ∧ DataW.trod enc P w base sp held n f3.type [c3] = some y3 := by
  obtain ⟨ys, n, _, _, hcl, hyl, hf⟩ := DataW.trod_struct hs h
  rw [hC] at hcl
  have g : ∀ (i : Nat) (f : Field), (#[f0, f1, f2, f3] : Array Field)[i]? = some f → f.offset = i ∧ P.cellsOf f.type = 1 := hone_of hone
  obtain ⟨o0, k0⟩ := g 0 f0 rfl
  obtain ⟨o1, k1⟩ := g 1 f1 rfl
  obtain ⟨o2, k2⟩ := g 2 f2 rfl
  obtain ⟨o3, k3⟩ := g 3 f3 rfl
  have h0 := hf 0 f0 rfl
  have h1 := hf 1 f1 rfl
  have h2 := hf 2 f2 rfl
  have h3 := hf 3 f3 rfl
  rw [o0, k0] at h0
  rw [o1, k1] at h1
  rw [o2, k2] at h2
  rw [o3, k3] at h3
  match cs, hcl with
  | [c0, c1, c2, c3], _ =>
    match ys, hyl with
    | [y0, y1, y2, y3], _ => exact ⟨c0, c1, c2, c3, y0, y1, y2, y3, n, rfl, h0, h1, h2, h3⟩

/-- Of such a kind are the entries that come in. -/
def En.fit (x : En) : Prop := x.k.size ≤ maxLen ∧ x.v.size ≤ maxLen ∧ 0 ≤ x.S ∧ x.S ≤ 18446744073709551615
theorem flat_of (css : List (List Value)) (h : ∀ c ∈ css, (∃ x : En, x.fit ∧ c = x.cells) ∧ c.length = 4) : ∃ L : List En, L.length = css.length ∧ (∀ x ∈ L, x.fit) ∧ css.flatten = flat L := by
  induction css with
  | nil => exact ⟨[], rfl, by simp, rfl⟩
  | cons c r ih =>
    obtain ⟨hs, e1, e2, e3⟩ := ih (fun d hd => h d (by simp [hd]))
    obtain ⟨x, hx, rfl⟩ := (h c (by simp)).1
    exact ⟨x :: hs, by simp [e1], by simpa using ⟨hx, e2⟩, by rw [List.flatten_cons, e3, flat_cons]⟩
set_option maxRecDepth 100000 in
theorem open_ents {H : Type} {enc : TypeId × Value → H} {W : World} {b0 : Nat} {r : Reach} {v : Value} {d : DataW H} {ps : List MemPlace}
    (hv : Value.okWide Try.prog W r b0 43 v) (hd : DataW.Trod enc Try.prog W 0 (fun _ => true) true 43 v d ps) :
    ∃ (A : Option Addr) (c : Nat) (L : List En), v = .slice A L.length c ∧ RdN W W.heap.size 4 A L.length (flat L) ∧ (∀ x ∈ L, x.fit) ∧ L.length ≤ c ∧ c ≤ maxLen := by
  obtain ⟨A, n, c, rfl⟩ := okWide_slice Try.underlying43 hv
  obtain ⟨fuel, hf⟩ := hd
  obtain ⟨A', n', c', css, e, hl, hall, hr, h1, h2⟩ := open_sliceG (s := 4) (T := fun cs => ∃ x : En, x.fit ∧ cs = x.cells) Try.underlying43 (by kernel_rfl) (by omega) (fun fuel cs x h _ => by
    obtain ⟨c0, c1, c2, c3, y0, y1, y2, y3, n', rfl, h0, h1, h2, h3⟩ := cells4 Try.underlying45 (by kernel_rfl) (by kernel_rfl) h
    obtain ⟨s0, e0, _, m0⟩ := DataW.trod_string Try.underlying9 h0
    obtain ⟨s1, e1, _, m1⟩ := DataW.trod_int Try.underlying32 h1
    obtain ⟨s2, e2, _⟩ := DataW.trod_bool Try.underlying4 h2
    obtain ⟨s3, e3, _, m3⟩ := DataW.trod_string Try.underlying9 h3
    injection e0 with e0
    injection e1 with e1
    injection e2 with e2
    injection e3 with e3
    subst e0; subst e1; subst e2; subst e3
    have hb : 0 ≤ s1 ∧ s1 ≤ 18446744073709551615 := by simpa [Lit.wf, IntKind.min, IntKind.max, IntKind.signed, IntKind.bits] using m1
    exact ⟨⟨s0, s1, s2, s3⟩, ⟨m0, m3, hb.1, hb.2⟩, rfl⟩) hf
  simp [Value.cells] at e
  obtain ⟨rfl, rfl, rfl⟩ := e
  obtain ⟨L, e1, e2, e3⟩ := flat_of css hall
  rw [e3] at hr
  obtain rfl : n = L.length := by omega
  exact ⟨A, c, L, rfl, hr, e2, h1, h2⟩
set_option maxRecDepth 100000 in
theorem open_en {H : Type} {enc : TypeId × Value → H} {W : World} {base b0 : Nat} {sp : Nat → Bool} {held : Bool} {r : Reach} {v : Value} {d : DataW H} {ps : List MemPlace}
    (hv : Value.okWide Try.prog W r b0 45 v) (hd : DataW.Trod enc Try.prog W base sp held 45 v d ps) : ∃ x : En, v = x.val ∧ x.fit := by
  obtain ⟨v0, v1, v2, v3, y0, y1, y2, y3, n, rfl, _, _, h0, h1, h2, h3⟩ := open_agg4 Try.underlying45 (by kernel_rfl) (by kernel_rfl) hv hd
  obtain ⟨s0, e0, _, m0⟩ := DataW.trod_string Try.underlying9 h0
  obtain ⟨s1, e1, _, m1⟩ := DataW.trod_int Try.underlying32 h1
  obtain ⟨s2, e2, _⟩ := DataW.trod_bool Try.underlying4 h2
  obtain ⟨s3, e3, _, m3⟩ := DataW.trod_string Try.underlying9 h3
  injection e0 with e0
  injection e1 with e1
  injection e2 with e2
  injection e3 with e3
  subst e0; subst e1; subst e2; subst e3
  have hb : 0 ≤ s1 ∧ s1 ≤ 18446744073709551615 := by simpa [Lit.wf, IntKind.min, IntKind.max, IntKind.signed, IntKind.bits] using m1
  exact ⟨⟨s0, s1, s2, s3⟩, rfl, ⟨m0, m3, hb.1, hb.2⟩⟩

theorem stE : Try.prog.underlying 45 = some (.struct (Try.prog.fieldsOf 45)) := by kernel_rfl
theorem spE : Try.prog.stoodInHeld 45 = false := by kernel_rfl
theorem guE : Try.prog.eqGuardType Try.prog.depth 45 = false := by kernel_rfl
def eqE (x y : En) : Bool := (x.k.toList == y.k.toList) && (x.S == y.S) && (x.d == y.d) && (x.v.toList == y.v.toList)
theorem eqE_iff (x y : En) : eqE x y = true ↔ x = y := by
  unfold eqE
  simp only [Bool.and_eq_true, beq_iff_eq]
  constructor
  · rintro ⟨⟨⟨h1, h2⟩, h3⟩, h4⟩
    cases x; cases y
    simp only at h1 h2 h3 h4
    rw [toList_inj h1, h2, h3, toList_inj h4]
  · rintro rfl
    exact ⟨⟨⟨rfl, rfl⟩, rfl⟩, rfl⟩
theorem equalInE (d : Nat) (x y : En) (w : World) : (Op.equalIn (d + 2) 45 x.val y.val).run Try.prog w = .ok (eqE x y) w := by
  have u9 := Try.underlying9
  have u40 := Try.underlying32
  have u4 := Try.underlying4
  rw [run_equalIn_agg w (d + 1) 45 _ _ stE spE]
  simp only [Program.fieldsOf, Try.underlying45]
  unfold eqE
  go_simp
  by_cases h1 : x.k.toList = y.k.toList <;> by_cases h2 : x.S = y.S <;> by_cases h3 : x.d = y.d <;> by_cases h4 : x.v.toList = y.v.toList <;> simp [h1, h2, h3, h4]
theorem eqlE (x y : En) (w : World) : (binOp .eql 45 x.val y.val).run Try.prog w = .ok (.bool (eqE x y)) w := by
  have h : (Op.equalIn 10000 45 x.val y.val).run Try.prog w = .ok (eqE x y) w := equalInE 9998 x y w
  rw [run_eql_struct, h]; rfl
theorem neqE (x y : En) (w : World) : (binOp .neq 45 x.val y.val).run Try.prog w = .ok (.bool (!eqE x y)) w := by
  have h : (Op.equalIn 10000 45 x.val y.val).run Try.prog w = .ok (eqE x y) w := equalInE 9998 x y w
  rw [run_neq_struct, h]; rfl
theorem neqE_same (x : En) (w : World) : (binOp .neq 45 x.val x.val).run Try.prog w = .ok (.bool false) w := by rw [neqE, (eqE_iff x x).2 rfl]; rfl

end Go.Proofs.Ytalcdmpjpphopaa
