/- Headers held against each other; a header that came in, opened. -/
import Derived.Test.YtkokbpifjpmhlaaDoorHR
import Derived.Test.YtkokbpifjpmhlaaDoorHIn
import Derived.ChangeKeysEq
namespace Go.Proofs.YtkokbpifjpmhlaaDoor
set_option linter.unusedSimpArgs false
set_option linter.unusedVariables false
open Go.RowKit Go.ChangeShapes Go.WideShapes Go.Deep

theorem eqFields_same {P : Program} (d : Nat) (xs : Array Value) : ∀ fs : List Field, (∀ f ∈ fs, ∃ a, (∀ w : World, (part f.type xs f.offset).run P w = .ok a w) ∧ ∀ w : World, (Op.equalIn d f.type a a).run P w = .ok true w) → ∀ w : World, (Op.eqFields d xs xs fs).run P w = .ok true w
  | [], _, w => by simp [Op.eqFields]
  | f :: fs, h, w => by
    obtain ⟨a, h1, h2⟩ := h f (by simp)
    have ih := eqFields_same d xs fs (fun g hg => h g (by simp [hg])) w
    by_cases hn : f.name ≠ "_"
    · simp only [Op.eqFields, if_pos hn, Sem.run_bind, h1, h2, Result.andThen_ok, Bool.not_true, Bool.false_eq_true, if_false, ih]
    · simp only [Op.eqFields, if_neg hn, ih]
theorem part_arr {P : Program} {t e : TypeId} {n s : Nat} (hu : P.underlying t = some (.array n e)) (hi : (P.info? t).map (·.size) = some s) (xs : Array Value) (off : Nat) (w : World) : (part t xs off).run P w = .ok (.agg (xs.extract off (off + s))) w := by
  cases h : P.info? t with
  | none => simp [h] at hi
  | some i =>
    have hs : i.size = s := by simpa [h] using hi
    simp [part, isAgg, run_underlying hu, sizeOf, typeInfo, h, hs]
theorem run_eql_bys' {P : Program} (w : World) (d : Nat) (t e : TypeId) (n : Nat) (k' : IntKind) (i : TypeInfo) (hu : P.underlying t = some (.array n e)) (hi : P.info? e = some i) (hc : P.cellsOf e = 1) (he : P.underlying e = some (.int k')) (xs : List Nat) (hx : xs.length = n) :
    (Op.equalIn (d + 2) t (.agg (bys xs).toArray) (.agg (bys xs).toArray)).run P w = .ok true w := by
  rw [run_equalIn_array w (d + 1) _ _ hu hi, hc, eqItems_bys w d e k' he xs xs _ (fun j hj => by have := List.mem_range.1 hj; omega), all_range_eq xs xs n hx hx]
  simp

theorem fields_hd : (Tryd.prog.fieldsOf 26).toList.map (fun f => (f.type, f.offset)) = [(21, 0), (23, 1), (23, 33), (24, 65), (24, 66), (24, 67)] := by kernel_rfl
theorem stoodHd : Tryd.prog.stoodInHeld 26 = false := by kernel_rfl
theorem strHd : Tryd.prog.underlying 26 = some (.struct (Tryd.prog.fieldsOf 26)) := by kernel_rfl
theorem guHd : Tryd.prog.eqGuardType Tryd.prog.depth 26 = false := by kernel_rfl
theorem plainI : Tryd.prog.plainKey 21 = true := by kernel_rfl
theorem plainU : Tryd.prog.plainKey 24 = true := by kernel_rfl

theorem hd_eql {v : Int} {p r : List Nat} {t b n : Nat} (h : IsHd v p r t b n) (w : World) : (Op.equalIn 10000 26 (.agg (hdC v p r t b n).toArray) (.agg (hdC v p r t b n).toArray)).run Tryd.prog w = .ok true w := by
  obtain ⟨i5, hi5⟩ := Tryd.some5
  have hc := hdC_at h
  have lp : (bys p).length = 32 := by rw [bys_len]; exact h.p.1
  have lr : (bys r).length = 32 := by rw [bys_len]; exact h.r.1
  have ep : (hdC v p r t b n).toArray.extract 1 (1 + 32) = (bys p).toArray := by
    rw [List.extract_toArray]
    congr 1
    simp only [hdC, hdT, List.extract_eq_take_drop, List.drop_succ_cons, List.drop_zero, Nat.add_sub_cancel_left]
    rw [List.take_append_of_le_length (by omega), List.take_of_length_le (by omega)]
  have er : (hdC v p r t b n).toArray.extract 33 (33 + 32) = (bys r).toArray := by
    rw [List.extract_toArray]
    congr 1
    simp only [hdC, hdT, List.extract_eq_take_drop, List.drop_succ_cons, Nat.add_sub_cancel_left]
    rw [List.drop_append_of_le_length (by omega), List.drop_of_length_le (by omega), List.nil_append, List.take_append_of_le_length (by omega), List.take_of_length_le (by omega)]
  rw [show (10000 : Nat) = 9999 + 1 from rfl, run_equalIn_struct w 9999 _ _ _ strHd stoodHd]
  refine eqFields_same 9999 _ _ (fun f hf => ?_) w
  have hm : (f.type, f.offset) ∈ (Tryd.prog.fieldsOf 26).toList.map (fun f => (f.type, f.offset)) := List.mem_map_of_mem hf
  rw [fields_hd] at hm
  simp only [List.mem_cons, Prod.mk.injEq, List.not_mem_nil, or_false] at hm
  rcases hm with ⟨e1, e2⟩ | ⟨e1, e2⟩ | ⟨e1, e2⟩ | ⟨e1, e2⟩ | ⟨e1, e2⟩ | ⟨e1, e2⟩
  · rw [e1, e2]
    exact ⟨_, fun w => run_part_plain w plainI (by simpa using hc.1), fun w => by rw [show (9999 : Nat) = 9998 + 1 from rfl, run_equalIn_int w 9998 _ _ _ _ _ Tryd.underlying21]; simp⟩
  · rw [e1, e2]
    exact ⟨_, fun w => part_arr Tryd.underlying23 Tryd.size23 _ _ w, fun w => by rw [ep]; exact run_eql_bys' w 9997 _ 5 32 .u8 i5 Tryd.underlying23 hi5 Tryd.cells5 Tryd.underlying5 p h.p.1⟩
  · rw [e1, e2]
    exact ⟨_, fun w => part_arr Tryd.underlying23 Tryd.size23 _ _ w, fun w => by rw [er]; exact run_eql_bys' w 9997 _ 5 32 .u8 i5 Tryd.underlying23 hi5 Tryd.cells5 Tryd.underlying5 r h.r.1⟩
  · rw [e1, e2]
    exact ⟨_, fun w => run_part_plain w plainU (by simpa using hc.2.1), fun w => by rw [show (9999 : Nat) = 9998 + 1 from rfl, run_equalIn_int w 9998 _ _ _ _ _ Tryd.underlying24]; simp⟩
  · rw [e1, e2]
    exact ⟨_, fun w => run_part_plain w plainU (by simpa using hc.2.2.1), fun w => by rw [show (9999 : Nat) = 9998 + 1 from rfl, run_equalIn_int w 9998 _ _ _ _ _ Tryd.underlying24]; simp⟩
  · rw [e1, e2]
    exact ⟨_, fun w => run_part_plain w plainU (by simpa using hc.2.2.2), fun w => by rw [show (9999 : Nat) = 9998 + 1 from rfl, run_equalIn_int w 9998 _ _ _ _ _ Tryd.underlying24]; simp⟩

theorem cells_hd {H : Type} {enc : TypeId × Value → H} {P : Program} {w : World} {base : Nat} {sp : Nat → Bool} {held : Bool} {fuel : Nat} {t : TypeId} {f0 f1 f2 f3 f4 f5 : Field} {cs : List Value} {x : DataW H × List MemPlace}
    (hs : P.underlying t = some (.struct #[f0, f1, f2, f3, f4, f5])) (hC : P.cellsOf t = 68)
    (hp : ([f0, f1, f2, f3, f4, f5].map fun f => (f.offset, P.cellsOf f.type)) = [(0, 1), (1, 32), (33, 32), (65, 1), (66, 1), (67, 1)])
    (h : DataW.trod enc P w base sp held fuel t cs = some x) :
    ∃ (y0 y1 y2 y3 y4 y5 : DataW H × List MemPlace) (n : Nat), cs.length = 68 ∧ DataW.trod enc P w base sp held n f0.type ((cs.drop 0).take 1) = some y0 ∧ DataW.trod enc P w base sp held n f1.type ((cs.drop 1).take 32) = some y1 ∧ DataW.trod enc P w base sp held n f2.type ((cs.drop 33).take 32) = some y2 ∧ DataW.trod enc P w base sp held n f3.type ((cs.drop 65).take 1) = some y3 ∧ DataW.trod enc P w base sp held n f4.type ((cs.drop 66).take 1) = some y4 ∧ DataW.trod enc P w base sp held n f5.type ((cs.drop 67).take 1) = some y5 := by
  obtain ⟨ys, n, _, _, hcl, hyl, hf⟩ := DataW.trod_struct hs h
  rw [hC] at hcl
  simp only [List.map_cons, List.map_nil, List.cons.injEq, Prod.mk.injEq, and_true] at hp
  obtain ⟨⟨a0, b0⟩, ⟨a1, b1⟩, ⟨a2, b2⟩, ⟨a3, b3⟩, ⟨a4, b4⟩, ⟨a5, b5⟩⟩ := hp
  have h0 := hf 0 f0 rfl
  have h1 := hf 1 f1 rfl
  have h2 := hf 2 f2 rfl
  have h3 := hf 3 f3 rfl
  have h4 := hf 4 f4 rfl
  have h5 := hf 5 f5 rfl
  rw [a0, b0] at h0
  rw [a1, b1] at h1
  rw [a2, b2] at h2
  rw [a3, b3] at h3
  rw [a4, b4] at h4
  rw [a5, b5] at h5
  match ys, hyl with
  | [y0, y1, y2, y3, y4, y5], _ => exact ⟨y0, y1, y2, y3, y4, y5, n, hcl, h0, h1, h2, h3, h4, h5⟩

set_option maxRecDepth 100000 in
theorem open_hd {H : Type} {enc : TypeId × Value → H} {W : World} {b0 : Nat} {r : Reach} {x : Value} {d : DataW H} {ps : List MemPlace}
    (hv : Value.okWide Tryd.prog W r b0 26 x) (hd : DataW.Trod enc Tryd.prog W 0 (fun _ => true) true 26 x d ps) :
    ∃ v p q t b n, x = .agg (hdC v p q t b n).toArray ∧ IsHd v p q t b n := by
  obtain ⟨cs, rfl, hcs⟩ := okWide_struct Tryd.underlying26 hv
  obtain ⟨fuel, hf⟩ := hd
  obtain ⟨y0, y1, y2, y3, y4, y5, n, hl, h0, h1, h2, h3, h4, h5⟩ := cells_hd Tryd.underlying26 (by kernel_rfl) (by kernel_rfl) hf
  simp only [Value.cells] at hl h0 h1 h2 h3 h4 h5
  obtain ⟨s0, e0, _, m0⟩ := DataW.trod_int Tryd.underlying21 h0
  obtain ⟨p1, e1, p1l, p1b⟩ := open_bys_cells Tryd.underlying23 Tryd.underlying5 (by kernel_rfl) (by kernel_rfl) h1
  obtain ⟨p2, e2, p2l, p2b⟩ := open_bys_cells Tryd.underlying23 Tryd.underlying5 (by kernel_rfl) (by kernel_rfl) h2
  obtain ⟨s3, e3, _, m3⟩ := DataW.trod_int Tryd.underlying24 h3
  obtain ⟨s4, e4, _, m4⟩ := DataW.trod_int Tryd.underlying24 h4
  obtain ⟨s5, e5, _, m5⟩ := DataW.trod_int Tryd.underlying24 h5
  simp [Lit.wf, IntKind.min, IntKind.max, IntKind.signed, IntKind.bits] at m0 m3 m4 m5
  obtain ⟨t3, rfl⟩ := Int.eq_ofNat_of_zero_le m3.1
  obtain ⟨t4, rfl⟩ := Int.eq_ofNat_of_zero_le m4.1
  obtain ⟨t5, rfl⟩ := Int.eq_ofNat_of_zero_le m5.1
  refine ⟨s0, p1, p2, t3, t4, t5, ?_, ⟨⟨p1l, p1b⟩, ⟨p2l, p2b⟩, m0.1, m0.2, by omega, by omega, by omega⟩⟩
  have sp : ∀ (l : List Value) (a k : Nat), l.drop a = (l.drop a).take k ++ l.drop (a + k) := fun l a k => by
    rw [← List.drop_drop, List.take_append_drop]
  have e : cs.toList = hdC s0 p1 p2 t3 t4 t5 := by
    have z : cs.toList.drop 68 = [] := List.drop_of_length_le (by omega)
    calc cs.toList = cs.toList.drop 0 := rfl
      _ = _ := by rw [sp _ 0 1, sp _ (0 + 1) 32, sp _ (0 + 1 + 32) 32, sp _ (0 + 1 + 32 + 32) 1, sp _ (0 + 1 + 32 + 32 + 1) 1, sp _ (0 + 1 + 32 + 32 + 1 + 1) 1, z, e0, e1, e2, e3, e4, e5]; simp [hdC, hdT]
  rw [← e]
end Go.Proofs.YtkokbpifjpmhlaaDoor
