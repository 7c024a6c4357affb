/- A Sorted of ints: Drop, NewSorted; a nil one; rows of ints laid anew; the law's steps, opened. -/
import Derived.Test.YtgdkcnpgnmmliabI3
import Derived.Test.YtgdkcnpgnmmliabOpenG
import Derived.Lib.SmallJoins
import Derived.OpenShut
import Derived.ShutString
import Derived.Deep.Fields
namespace Go.Proofs.Ytgdkcnpgnmmliab
set_option linter.unusedSimpArgs false
set_option linter.unusedVariables false
open Go.RowKit Go.Joins Go.ChangeShapes Go.WideShapes Go.Deep

def inI (L : List Nat) (i : Int) : Bool := decide (0 ≤ i) && decide (i < (L.length : Int))
def dropI (L : List Nat) (i : Int) : List Nat := if inI L i then L.eraseIdx i.toNat else L
set_option maxHeartbeats 2000000 in
set_option maxRecDepth 100000 in
theorem drop_anyI (base gs : Nat) (v : Value) (L : List Nat) (i : Int) (w : World) (h : SdI w base gs v L) (hn6 : (L.length : Int) ≤ 1000000) :
    Calls Try.prog 12 #[.pointer (some ⟨gs, 0, none⟩), .int .i64 i] w (PutPostI w base gs v (dropI L i) (inI L i)) := by
  obtain ⟨A, c, rfl, hnc, hcm, hr⟩ := own_rdN h.own
  have b1 := h.box.c1
  have HL := Lib.hid (len_anyI gs L.length c A w b1)
  by_cases h0 : i < 0
  · have e : inI L i = false := by unfold inI; rw [decide_eq_false (by omega)]; rfl
    rw [show dropI L i = L by unfold dropI; rw [e]; rfl, e]
    have HE : Hid (PutPostI w base gs (.slice A L.length c) L false (.returned (.bool false)) w) := Lib.hid ⟨_, rfl, h, Tch.refl _ _, .inl rfl⟩
    clear hr h
    generalize L.length = n at *
    go_enter Try.func12, Try.ntmps12
    go_wp2
    go_ret
    exact HE.out
  · obtain ⟨k, rfl⟩ : ∃ k : Nat, i = (k : Int) := ⟨i.toNat, by omega⟩
    by_cases hk : k < L.length
    · have e : inI L k = true := by unfold inI; rw [decide_eq_true (by omega), decide_eq_true (by omega)]; rfl
      rw [show dropI L k = L.eraseIdx k by unfold dropI; rw [e, Int.toNat_natCast]; rfl, e]
      obtain ⟨g, cap, ee, hbg, hg, hncap, hcapm⟩ := own_open h.own (by omega)
      injection ee with e1 e2 e3
      subst e1; subst e3
      have HD := Lib.hid (del_any base g c k L w hk h.own)
      have hkk : ((k + 1 : Nat) : Int) = (k : Int) + 1 := by omega
      rw [hkk] at HD
      have hlen : (L.eraseIdx k).length = L.length - 1 := List.length_eraseIdx_of_lt hk
      have hsrt : Srt cI (L.eraseIdx k) := h.srt.sublist (List.eraseIdx_sublist _ _)
      have hsm : ∀ y ∈ L.eraseIdx k, y < 256 := fun y hy => h.sm y (List.mem_of_mem_eraseIdx hy)
      have HEND : Hid (∀ W3, OwnI W3 base (.slice (some ⟨g, 0, none⟩) (L.length - 1) c) (L.eraseIdx k) → w.grownBy W3 (some g) → (W3.frozen? ⟨gs, 1, none⟩ = false ∧ W3.cell? ⟨gs, 1, none⟩ = some (.slice (some ⟨g, 0, none⟩) L.length c)) ∧ PutPostI w base gs (.slice (some ⟨g, 0, none⟩) L.length c) (L.eraseIdx k) true (.returned (.bool true)) (W3.setCell ⟨gs, 1, none⟩ (.slice (some ⟨g, 0, none⟩) (L.length - 1) c))) := Lib.hid fun W3 hO hgr => by
        have hne : g ≠ gs := fun e => h.ne (by rw [e]; rfl)
        have B3 := h.box.keep (hgr.block gs h.box.lt (fun e => hne (by injection e with e; exact e.symm)))
        have gr := grown_setCell W3 ⟨gs, 1, none⟩ (.slice (some ⟨g, 0, none⟩) (L.length - 1) c)
        refine ⟨⟨B3.cold 1, B3.c1⟩, _, rfl, ⟨B3.set1 _, ownN_keep hO (fun k hk => gr.block k (hO.lt k hk).2 (fun e => hne (Option.some.inj ((show some g = some k from hk).trans (show some k = some gs from e))))), h.lo, h.ne, hsrt, hsm⟩, ?_, .inl rfl⟩
        refine ⟨gr.os.trans hgr.os, gr.tape.trans hgr.tape, gr.output.trans hgr.output, Nat.le_trans hgr.size gr.size, fun j hj hL => ?_⟩
        simp only [List.mem_cons, Option.mem_toList, not_or] at hL
        rw [gr.block j (Nat.lt_of_lt_of_le hj hgr.size) (fun e => hL.1 (by injection e)), hgr.block j hj (fun e => hL.2 e.symm)]
      clear hr h hsrt hsm hlen
      generalize L.eraseIdx k = M at *
      generalize L.length = n at *
      have hk1 : ¬ (n : Int) ≤ (k : Int) := by omega
      clear h0 e e2 hkk hnc hcm hncap hcapm hbg hg
      go_enter Try.func12, Try.ntmps12
      go_upto_region 3 with (go_at_call 11; refine HL.out.mono ?_; rintro e w' ⟨rfl, rfl⟩)
      go_wp2_with fail
      refine (HD.out).mono ?_
      rintro e W3 ⟨rfl, hO3, hgr3⟩
      obtain ⟨⟨f2, f3⟩, hpost⟩ := HEND.out W3 hO3 hgr3
      have HE := Lib.hid hpost
      clear hO3 hgr3 hpost
      go_wp2
      go_ret
      exact HE.out
    · have e : inI L k = false := by unfold inI; rw [decide_eq_false (show ¬ (k : Int) < (L.length : Int) by omega), Bool.and_false]
      rw [show dropI L k = L by unfold dropI; rw [e]; rfl, e]
      have HE : Hid (PutPostI w base gs (.slice A L.length c) L false (.returned (.bool false)) w) := Lib.hid ⟨_, rfl, h, Tch.refl _ _, .inl rfl⟩
      clear hr h
      generalize L.length = n at *
      have hk1 : (n : Int) ≤ (k : Int) := by omega
      clear h0 e
      go_enter Try.func12, Try.ntmps12
      go_wp2_with (go_at_call 11; refine HL.out.mono ?_; rintro e w' ⟨rfl, rfl⟩)
      go_ret
      exact HE.out

set_option maxHeartbeats 400000 in
theorem newI_any (w : World) : Calls Try.prog 8 #[fOrd] w fun e w' => e = .returned (.pointer (some ⟨w.heap.size, 0, none⟩)) ∧ w' = w.alloc (.cells #[fOrd, .slice none 0 0] 54) := by
  have hF := eqlFI w
  go_enter Try.func8, Try.ntmps8
  go_wp2
  go_ret
  exact ⟨rfl, rfl⟩
set_option maxHeartbeats 400000 in
theorem newI_nil (w : World) : Calls Try.prog 8 #[.nilFunc] w fun e w' => e = .returned (.pointer none) ∧ w = w' := by
  have hF := eqlNI w
  go_enter Try.func8, Try.ntmps8
  go_wp2
  go_ret
  exact ⟨rfl, rfl⟩
theorem SdI.new (w : World) (base : Nat) (hb : base ≤ w.heap.size) : SdI (w.alloc (.cells #[fOrd, .slice none 0 0] 54)) base w.heap.size (.slice none 0 0) [] :=
  ⟨Bx2.new w fOrd (.slice none 0 0) 54, ⟨rfl, .inl ⟨rfl, rfl⟩⟩, hb, by simp [Value.ownBlock], List.Pairwise.nil, by simp⟩

set_option maxHeartbeats 400000 in
theorem ordered_nilI (w : World) : Calls Try.prog 27 #[.pointer none] w fun e w' => e = .returned (.bool false) ∧ w = w' := by
  go_enter Try.func27, Try.ntmps27
  go_wp2
  go_ret
  exact ⟨rfl, rfl⟩
set_option maxHeartbeats 400000 in
theorem len_nilI (w : World) : Calls Try.prog 11 #[.pointer none] w fun e w' => e = .returned (.int .i64 0) ∧ w = w' := by
  go_enter Try.func11, Try.ntmps11
  go_wp2
  go_ret
  exact ⟨rfl, rfl⟩
set_option maxHeartbeats 400000 in
theorem find_nilI (x : Int) (w : World) : Calls Try.prog 28 #[.pointer none, .int .i64 x] w fun e w' => e = .returned (.tuple #[.int .i64 0, .bool false]) ∧ w = w' := by
  go_enter Try.func28, Try.ntmps28
  go_wp2_with (go_at_call 27; refine (ordered_nilI _).mono ?_; rintro e w' ⟨rfl, rfl⟩)
  go_ret2
  exact ⟨rfl, rfl⟩
set_option maxHeartbeats 400000 in
theorem seek_nilI (x : Int) (w : World) : Calls Try.prog 13 #[.pointer none, .int .i64 x] w fun e w' => e = .returned (.int .i64 0) ∧ w = w' := by
  go_enter Try.func13, Try.ntmps13
  go_wp2_with (go_at_call 28; refine (find_nilI x _).mono ?_; rintro e w' ⟨rfl, rfl⟩)
  go_ret
  exact ⟨rfl, rfl⟩
set_option maxHeartbeats 400000 in
theorem put_nilI (x : Int) (w : World) : Calls Try.prog 10 #[.pointer none, .int .i64 x] w fun e w' => e = .returned (.bool false) ∧ w = w' := by
  go_enter Try.func10, Try.ntmps10
  go_wp2_with (go_at_call 27; refine (ordered_nilI _).mono ?_; rintro e w' ⟨rfl, rfl⟩)
  go_ret
  exact ⟨rfl, rfl⟩
set_option maxHeartbeats 400000 in
theorem at_nilI (w : World) : Calls Try.prog 14 #[.pointer none, .int .i64 0] w fun e w' => e = .returned (.tuple #[.int .i64 0, .bool false]) ∧ w = w' := by
  go_enter Try.func14, Try.ntmps14
  go_wp2_with (go_at_call 11; refine (len_nilI _).mono ?_; rintro e w' ⟨rfl, rfl⟩)
  go_ret2
  exact ⟨rfl, rfl⟩
set_option maxHeartbeats 400000 in
theorem drop_nilI (w : World) : Calls Try.prog 12 #[.pointer none, .int .i64 0] w fun e w' => e = .returned (.bool false) ∧ w = w' := by
  go_enter Try.func12, Try.ntmps12
  go_wp2_with (go_at_call 11; refine (len_nilI _).mono ?_; rintro e w' ⟨rfl, rfl⟩)
  go_ret
  exact ⟨rfl, rfl⟩

theorem run_slice1_l {P : Program} (w : World) (t e : TypeId) (i : TypeInfo) (ht : P.underlying t = some (.slice e)) (hi : P.info? e = some i) (hs : i.size = 1) (A : Option Addr) (n c l : Nat) (hl : l ≤ n) (kl : IntKind) (L : Int) (hL : L = l) :
    (Instr.slice t (.slice A n c) (some (.int kl L)) none none).run P w = .ok (.slice (if c = l then A else A.map (·.add l)) (n - l) (c - l)) w := by
  subst hL
  have e2 : (Instr.sliceBound (.int kl (l : Int)) n .sliceB).run P w = .ok l w := by simp [Instr.sliceBound, asIntOf]; omega
  simp [Instr.slice, run_underlying ht, Instr.sliceBounds, e2, sizeOf, typeInfo, hi, hs]
theorem run_slice1_h {P : Program} (w : World) (t e : TypeId) (i : TypeInfo) (ht : P.underlying t = some (.slice e)) (hi : P.info? e = some i) (hs : i.size = 1) (A : Option Addr) (n c h : Nat) (hc : h ≤ c) (kh : IntKind) (H : Int) (hH : H = h) :
    (Instr.slice t (.slice A n c) none (some (.int kh H)) none).run P w = .ok (.slice A h c) w := by
  subst hH
  have e1 : (Instr.sliceBound (.int kh (h : Int)) c .sliceAcap).run P w = .ok h w := by simp [Instr.sliceBound, asIntOf]; omega
  have e3 : A.map (·.add 0) = A := by cases A <;> simp [Addr.add]
  simp [Instr.slice, run_underlying ht, Instr.sliceBounds, e1, sizeOf, typeInfo, hi, hs, e3]
theorem grown_belowI {w w' : World} {v : Value} {b : Nat} (g : w.grownBy w' v.ownBlock) (hb : b ≤ w.heap.size) (hv : ∀ k, v.ownBlock = some k → b ≤ k) : Below b w w' :=
  ⟨g.os, g.tape, g.output, g.size, fun k hk => g.block k (by omega) (fun e => by have := hv k e.symm; omega)⟩

/-- What the law lays: the front of a row, one more (or none), and what stands from a place on. -/
theorem row3I (w : World) (A : Option Addr) (c a q : Nat) (M : List Nat) (y : Nat) (hr : RdN w w.heap.size 1 A M.length (cellsI M)) (ha : a ≤ M.length) (hq : q ≤ M.length) (hc : M.length ≤ c) (hn : (M.length : Int) ≤ 100) :
    ∃ v10 w10 v12 w12 v13 w13 v14 w14, (∀ ty, (Builtin.append_ #[28, 28] ty #[.slice (some ⟨w.heap.size, 0, none⟩) 0 0, .slice A a c]).run Try.prog (w.alloc (.cells #[] 3)) = .ok v10 w10) ∧
      (∀ ty, (Builtin.append_ #[28, 28] ty #[v10, .slice (some ⟨w10.heap.size, 0, none⟩) 1 1]).run Try.prog (w10.alloc (.cells #[.int .i64 (y : Int)] 3)) = .ok v12 w12) ∧
      (∀ ty, (Builtin.append_ #[28, 28] ty #[v12, .slice (if c = q then A else A.map (·.add q)) (M.length - q) (c - q)]).run Try.prog w12 = .ok v13 w13) ∧
      (∀ ty, (Builtin.append_ #[28, 28] ty #[v10, .slice (if c = q then A else A.map (·.add q)) (M.length - q) (c - q)]).run Try.prog w10 = .ok v14 w14) ∧
      OwnI w13 w.heap.size v13 (M.take a ++ y :: M.drop q) ∧ OwnI w14 w.heap.size v14 (M.take a ++ M.drop q) ∧ Below w.heap.size w w10 ∧ Below w.heap.size w w13 ∧ Below w.heap.size w w14 ∧ Below w.heap.size w w12 := by
  obtain ⟨ti, hti, hts, htz, htb⟩ := infoEI
  have b9 : Below w.heap.size w (w.alloc (.cells #[] 3)) := (Below.refl _ _).alloc (Nat.le_refl _) _
  have own0 : (w.alloc (.cells #[] 3)).ownsRow w.heap.size 3 1 (.slice (some ⟨w.heap.size, 0, none⟩) 0 0) 0 [] := ⟨rfl, .inr ⟨w.heap.size, 0, #[], rfl, Nat.le_refl _, heap_alloc_new w _, Nat.le_refl _, Nat.zero_le _, rfl, rfl⟩⟩
  have r1 := (hr.take a ha).below b9
  rw [Nat.mul_one, cellsI_take] at r1
  obtain ⟨v10, w10, run10, own10, gr10, _⟩ := run_appN (P := Try.prog) (w.alloc (.cells #[] 3)) w.heap.size 28 28 3 ti (Value.int .i64 0) 1 8 Try.underlying28 hti htz hts htb rfl (by omega) own0 (c := c) r1 (cellsI_one _) (by unfold maxLen; omega) (by omega) b9.size
  rw [Nat.zero_add, List.nil_append] at own10
  have b10 : Below w.heap.size w w10 := b9.trans (grown_belowI gr10 b9.size (fun k hk => (own0.lt k hk).1))
  have b11 : Below w.heap.size w (w10.alloc (.cells #[.int .i64 (y : Int)] 3)) := b10.alloc b10.size _
  have own11 : (w10.alloc (.cells #[.int .i64 (y : Int)] 3)).ownsRow w.heap.size 3 1 v10 a (cellsI (M.take a)) := ownN_keep own10 (fun k hk => ((Below.refl w10.heap.size w10).alloc (Nat.le_refl _) _).block k (own10.lt k hk).2)
  have r2 := RdN.new w10 1 1 [Value.int .i64 (y : Int)] 3 (0, 0) rfl
  obtain ⟨v12, w12, run12, own12, gr12, _⟩ := run_appN (P := Try.prog) (w10.alloc (.cells #[.int .i64 (y : Int)] 3)) w.heap.size 28 28 3 ti (Value.int .i64 0) 1 8 Try.underlying28 hti htz hts htb rfl (by omega) own11 (c := 1) r2 (by intro u hu; simp at hu; subst hu; rfl) (by unfold maxLen; omega) (by omega) b11.size
  have b12 : Below w.heap.size w w12 := b11.trans (grown_belowI gr12 b11.size (fun k hk => (own11.lt k hk).1))
  have r3 := (hr.drop q c hq hc).below b12
  have r4 := (hr.drop q c hq hc).below b10
  rw [Nat.mul_one, cellsI_drop] at r3 r4
  obtain ⟨v13, w13, run13, own13, gr13, _⟩ := run_appN (P := Try.prog) w12 w.heap.size 28 28 3 ti (Value.int .i64 0) 1 8 Try.underlying28 hti htz hts htb rfl (by omega) own12 (c := c - q) r3 (cellsI_one _) (by unfold maxLen; omega) (by omega) b12.size
  have b13 : Below w.heap.size w w13 := b12.trans (grown_belowI gr13 b12.size (fun k hk => (own12.lt k hk).1))
  obtain ⟨v14, w14, run14, own14, gr14, _⟩ := run_appN (P := Try.prog) w10 w.heap.size 28 28 3 ti (Value.int .i64 0) 1 8 Try.underlying28 hti htz hts htb rfl (by omega) own10 (c := c - q) r4 (cellsI_one _) (by unfold maxLen; omega) (by omega) b10.size
  have b14 : Below w.heap.size w w14 := b10.trans (grown_belowI gr14 b10.size (fun k hk => (own10.lt k hk).1))
  refine ⟨v10, w10, v12, w12, v13, w13, v14, w14, fun _ => run10, fun _ => run12, fun _ => run13, fun _ => run14, ?_, ?_, b10, b13, b14, b12⟩
  · unfold OwnI
    have e1 : cellsI (M.take a ++ y :: M.drop q) = cellsI (M.take a) ++ [Value.int .i64 (y : Int)] ++ cellsI (M.drop q) := by simp [cellsI]
    have e : (M.take a ++ y :: M.drop q).length = a + 1 + (M.length - q) := by simp; omega
    rw [e, e1]
    exact own13
  · unfold OwnI
    have e : (M.take a ++ M.drop q).length = a + (M.length - q) := by simp; omega
    rw [e, cellsI_app]
    exact own14

/-- A step of the law: two ints. -/
abbrev Opp := Int × Int
def opC (p : Opp) : List Value := [.int .i64 p.1, .int .i64 p.2]
def opC2 : List Opp → List Value
  | [] => []
  | p :: r => opC p ++ opC2 r
theorem opC2_get : ∀ (L : List Opp) (i : Nat) (p : Opp), L[i]? = some p → (opC2 L)[i * 2]? = some (.int .i64 p.1) ∧ (opC2 L)[i * 2 + 1]? = some (.int .i64 p.2)
  | [], i, p, h => by simp at h
  | q :: r, 0, p, h => by simp at h; subst h; exact ⟨rfl, rfl⟩
  | q :: r, i + 1, p, h => by
    have := opC2_get r i p (by simpa using h)
    have e1 : (i + 1) * 2 = i * 2 + 1 + 1 := by omega
    rw [e1]
    simpa [opC2, opC] using this
theorem RdN.opp {w : World} {B : Nat} {A : Option Addr} {L : List Opp} (h : RdN w B 2 A L.length (opC2 L)) (i : Nat) (p : Opp) (hp : L[i]? = some p) :
    ∃ g off, A = some ⟨g, off, none⟩ ∧ g < B ∧ w.cell? ⟨g, off + i * 2, none⟩ = some (.int .i64 p.1) ∧ w.cell? ⟨g, off + i * 2 + 1, none⟩ = some (.int .i64 p.2) := by
  have hi := (List.getElem?_eq_some_iff.1 hp).1
  obtain ⟨g, off, e, hg, hc⟩ := h.at_ (by omega)
  obtain ⟨e1, e2⟩ := opC2_get L i p hp
  exact ⟨g, off, e, hg, hc _ _ e1, by have := hc _ _ e2; rwa [← Nat.add_assoc] at this⟩
theorem cells2I {H : Type} {enc : TypeId × Value → H} {P : Program} {w : World} {base : Nat} {sp : Nat → Bool} {held : Bool} {fuel : Nat} {t : TypeId} {f0 f1 : Field} {cs : List Value} {x : DataW H × List MemPlace}
    (hs : P.underlying t = some (.struct #[f0, f1])) (hone : oneCellFields P #[f0, f1] = true) (hC : P.cellsOf t = 2) (h : DataW.trod enc P w base sp held fuel t cs = some x) :
    ∃ (c0 c1 : Value) (y0 y1 : DataW H × List MemPlace) (n : Nat), cs = [c0, c1] ∧ DataW.trod enc P w base sp held n f0.type [c0] = some y0 ∧ DataW.trod enc P w base sp held n f1.type [c1] = some y1 := by
  obtain ⟨ys, n, _, _, hcl, hyl, hf⟩ := DataW.trod_struct hs h
  rw [hC] at hcl
  have g : ∀ (i : Nat) (f : Field), (#[f0, f1] : Array Field)[i]? = some f → f.offset = i ∧ P.cellsOf f.type = 1 := hone_of hone
  obtain ⟨o0, k0⟩ := g 0 f0 rfl
  obtain ⟨o1, k1⟩ := g 1 f1 rfl
  have h0 := hf 0 f0 rfl
  have h1 := hf 1 f1 rfl
  rw [o0, k0] at h0
  rw [o1, k1] at h1
  match cs, hcl with
  | [c0, c1], _ =>
    match ys, hyl with
    | [y0, y1], _ => exact ⟨c0, c1, y0, y1, n, rfl, h0, h1⟩
def fitO (p : Opp) : Prop := (-9223372036854775808 ≤ p.1 ∧ p.1 ≤ 9223372036854775807) ∧ (-9223372036854775808 ≤ p.2 ∧ p.2 ≤ 9223372036854775807)
theorem ops_of (css : List (List Value)) (h : ∀ c ∈ css, (∃ p : Opp, fitO p ∧ c = opC p) ∧ c.length = 2) : ∃ L : List Opp, L.length = css.length ∧ (∀ p ∈ L, fitO p) ∧ css.flatten = opC2 L := by
  induction css with
  | nil => exact ⟨[], rfl, by simp, rfl⟩
  | cons c r ih =>
    obtain ⟨hs, e1, e2, e3⟩ := ih (fun d hd => h d (by simp [hd]))
    obtain ⟨x, hx, rfl⟩ := (h c (by simp)).1
    refine ⟨x :: hs, by simp [e1], ?_, by rw [List.flatten_cons, e3]; rfl⟩
    intro p hp
    rcases List.mem_cons.1 hp with rfl | hp
    · exact hx
    · exact e2 p hp
set_option maxRecDepth 100000 in
theorem open_ops {H : Type} {enc : TypeId × Value → H} {W : World} {b0 : Nat} {r : Reach} {v : Value} {d : DataW H} {ps : List MemPlace}
    (hv : Value.okWide Try.prog W r b0 22 v) (hd : DataW.Trod enc Try.prog W 0 (fun _ => true) true 22 v d ps) :
    ∃ (A : Option Addr) (c : Nat) (L : List Opp), v = .slice A L.length c ∧ RdN W W.heap.size 2 A L.length (opC2 L) ∧ (∀ p ∈ L, fitO p) ∧ L.length ≤ c ∧ c ≤ maxLen := by
  obtain ⟨A, n, c, rfl⟩ := okWide_slice Try.underlying22 hv
  obtain ⟨fuel, hf⟩ := hd
  obtain ⟨A', n', c', css, e, hl, hall, hr, h1, h2⟩ := open_sliceG (s := 2) (T := fun cs => ∃ p : Opp, fitO p ∧ cs = opC p) Try.underlying22 (by kernel_rfl) (by omega) (fun fuel cs x h _ => by
    obtain ⟨c0, c1, y0, y1, n', rfl, h0, h1⟩ := cells2I Try.underlying30 (by kernel_rfl) (by kernel_rfl) h
    obtain ⟨s0, e0, _, m0⟩ := DataW.trod_int Try.underlying3 h0
    obtain ⟨s1, e1, _, m1⟩ := DataW.trod_int Try.underlying3 h1
    injection e0 with e0
    injection e1 with e1
    subst e0; subst e1
    have k0 : -9223372036854775808 ≤ s0 ∧ s0 ≤ 9223372036854775807 := by simpa [Lit.wf, IntKind.min, IntKind.max, IntKind.signed, IntKind.bits] using m0
    have k1 : -9223372036854775808 ≤ s1 ∧ s1 ≤ 9223372036854775807 := by simpa [Lit.wf, IntKind.min, IntKind.max, IntKind.signed, IntKind.bits] using m1
    exact ⟨(s0, s1), ⟨k0, k1⟩, rfl⟩) hf
  simp [Value.cells] at e
  obtain ⟨rfl, rfl, rfl⟩ := e
  obtain ⟨L, e1, e2, e3⟩ := ops_of css hall
  rw [e3] at hr
  obtain rfl : n = L.length := by omega
  exact ⟨A, c, L, rfl, hr, e2, h1, h2⟩
end Go.Proofs.Ytgdkcnpgnmmliab
