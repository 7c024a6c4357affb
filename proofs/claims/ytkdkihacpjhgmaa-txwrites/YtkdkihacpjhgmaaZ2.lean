/- What the law's Plain has so far: a transaction as the reference has it. -/
import Derived.Test.YtkdkihacpjhgmaaXE
import Derived.Test.YtkdkihacpjhgmaaXB
import Derived.Laws.Cover3
namespace Go.Proofs.Ytkdkihacpjhgmaa
set_option linter.unusedSimpArgs false
set_option linter.unusedVariables false
open Go.RowKit

theorem cells_u8 : Try.prog.cellsOf 5 = 1 := by kernel_rfl
theorem Try.zeroRIn : (Try.prog.info? 65).map (·.zero) = some (some (.agg ZIN.toArray)) := by kernel_rfl
theorem Try.sizeRIn : (Try.prog.info? 65).map (·.size) = some 36 := by kernel_rfl
theorem Try.infoRIn : (Try.prog.info? 65).map (fun i => (i.zero, i.size, i.bytes)) = some (some (.agg ZIN.toArray), 36, 88) := by kernel_rfl
theorem Try.infoROut : (Try.prog.info? 66).map (fun i => (i.zero, i.size, i.bytes)) = some (some (.agg #[.int .i64 0, .string ⟨#[]⟩]), 2, 24) := by kernel_rfl
theorem lit_rin (w : World) (C : List Value) (hC : C.length = 36) (parts : Array (Nat × Value)) (hp : parts.toList = [(0, .agg C.toArray)]) :
    (Instr.buildSlice 35 1 parts).run Try.prog w = .ok (.slice (some ⟨w.heap.size, 0, none⟩) 1 1) (w.alloc (.cells C.toArray 65)) := by
  obtain ⟨i0, hi, hz0, hz1, hz2⟩ := infoIn_parts Try.infoRIn
  have := run_buildSlice_rows (P := Try.prog) w 35 65 i0 _ 36 Try.underlying35 hi hz0 hz1 (by omega) 1 [C] rfl (by omega) (by simpa using hC) (by omega) parts hp
  simpa using this
theorem lit_rout (w : World) (o : TOut) (parts : Array (Nat × Value)) (hp : parts.toList = [(0, .agg o.cells.toArray)]) :
    (Instr.buildSlice 36 1 parts).run Try.prog w = .ok (.slice (some ⟨w.heap.size, 0, none⟩) 1 1) (w.alloc (.cells o.cells.toArray 66)) := by
  obtain ⟨i0, hi, hz0, hz1, hz2⟩ := infoOut_parts Try.infoROut
  have := run_buildSlice_rows (P := Try.prog) w 36 66 i0 _ 2 Try.underlying36 hi hz0 hz1 (by omega) 1 [o.cells] rfl (by omega) (by simp [TOut.cells]) (by omega) parts hp
  simpa using this
theorem app_rin (w : World) (base : Nat) (v : Value) (n : Nat) (xs : List Value) (hown : w.ownsRow base 65 36 v n xs) (C : List Value) (hC : C.length = 36) (h1 : ∀ u ∈ C, u.oneCell' = true) (hn : (n : Int) ≤ 1000000) (hbase : base ≤ w.heap.size) :
    ∃ v' w', (Builtin.append_ #[35, 35] 35 #[v, .slice (some ⟨w.heap.size, 0, none⟩) 1 1]).run Try.prog (w.alloc (.cells C.toArray 65)) = .ok v' w' ∧ w'.ownsRow base 65 36 v' (n + 1) (xs ++ C) ∧ w.grownBy w' v.ownBlock ∧ (v'.ownBlock = v.ownBlock ∨ ∀ k, v'.ownBlock = some k → w.heap.size ≤ k) := by
  obtain ⟨i0, hi, hz0, hz1, hz2⟩ := infoIn_parts Try.infoRIn
  obtain ⟨v', w', q1, q2, q3, q4⟩ := run_appN (P := Try.prog) (w.alloc (.cells C.toArray 65)) base 35 35 65 i0 _ 36 88 Try.underlying35 hi hz0 hz1 hz2 (by simp [Value.cells, ZIN_len]) (by omega) (hown.alloc _) (RdN.new w 36 1 C 65 (0, 0) (by rw [hC])) (c := 1) h1 (by unfold maxLen; omega) (by omega) (by simp; omega)
  refine ⟨v', w', q1, q2, (World.grownBy_alloc w _ _).trans q3, q4.imp id fun e k hk => ?_⟩
  have := e k hk
  simp at this
  omega
theorem app_rout (w : World) (base : Nat) (v : Value) (n : Nat) (xs : List Value) (hown : w.ownsRow base 66 2 v n xs) (o : TOut) (hn : (n : Int) ≤ 1000000) (hbase : base ≤ w.heap.size) :
    ∃ v' w', (Builtin.append_ #[36, 36] 36 #[v, .slice (some ⟨w.heap.size, 0, none⟩) 1 1]).run Try.prog (w.alloc (.cells o.cells.toArray 66)) = .ok v' w' ∧ w'.ownsRow base 66 2 v' (n + 1) (xs ++ o.cells) ∧ w.grownBy w' v.ownBlock ∧ (v'.ownBlock = v.ownBlock ∨ ∀ k, v'.ownBlock = some k → w.heap.size ≤ k) := by
  obtain ⟨i0, hi, hz0, hz1, hz2⟩ := infoOut_parts Try.infoROut
  obtain ⟨v', w', q1, q2, q3, q4⟩ := run_appN (P := Try.prog) (w.alloc (.cells o.cells.toArray 66)) base 36 36 66 i0 _ 2 24 Try.underlying36 hi hz0 hz1 hz2 rfl (by omega) (hown.alloc _) (RdN.new w 2 1 o.cells 66 (0, 0) rfl) (c := 1) (by intro u hu; simp [TOut.cells] at hu; rcases hu with rfl | rfl <;> rfl) (by unfold maxLen; omega) (by omega) (by simp; omega)
  refine ⟨v', w', q1, q2, (World.grownBy_alloc w _ _).trans q3, q4.imp id fun e k hk => ?_⟩
  have := e k hk
  simp at this
  omega

theorem fill_part (place : Nat → Option (Nat × Nat)) (i off s : Nat) (hpl : place i = some (off, s)) (pre mid post vs : List Value) (hp : pre.length = off) (hm : mid.length = s) (hv : vs.length = s) (v : Value) (hvc : v.cells = vs.toArray) (R : List (Nat × Value)) :
    Instr.fill place (pre ++ mid ++ post).toArray ((i, v) :: R) = Instr.fill place (pre ++ vs ++ post).toArray R := by
  have e := foldl_set vs off 0 pre mid post (by omega) (by omega)
  have e2 : (v.cells.zipIdx.foldl (fun cs (x : Value × Nat) => cs.setIfInBounds (off + x.2) x.1) (pre ++ mid ++ post).toArray) = (pre ++ vs ++ post).toArray := by
    rw [hvc, ← e, ← Array.foldl_toList, Array.toList_zipIdx]
  rw [← e2]
  show (match place i with | none => none | some (off, size) => if (v.cells.size ≠ size || off + v.cells.size > (pre ++ mid ++ post).toArray.size) = true then none else _) = _
  rw [hpl]
  refine (if_neg ?_).trans rfl
  have : v.cells.size = s := by rw [hvc]; simpa using hv
  simp [this]
  omega


theorem places_rin : ∃ fs, Try.prog.underlying 65 = some (.struct fs) ∧ fs.toList.mapM (fun f => (Try.prog.info? f.type).map fun i => (f.offset, i.size)) = some [(0, 32), (32, 1), (33, 1), (34, 1), (35, 1)] :=
  ⟨_, Try.underlying65, by kernel_rfl⟩
theorem built_rfill (parts : List (Nat × Value)) : Try.prog.built 65 parts = Instr.fill ([((0 : Nat), (32 : Nat)), (32, 1), (33, 1), (34, 1), (35, 1)].toArray[·]?) ZIN.toArray parts := by
  obtain ⟨fs, hu, hp⟩ := places_rin
  have h0 := Try.zeroRIn
  cases hi : Try.prog.info? 65 with
  | none => simp [hi] at h0
  | some it =>
    have hz : it.zero = some (.agg ZIN.toArray) := by simpa [hi] using h0
    unfold Program.built
    simp only [hi, hu, hz, hp]
    rfl
theorem built_rin (id : List Nat) (o : Nat) (sc : List Nat) (q : Nat) (A : Option Addr) (n c : Nat) (h : id.length = 32) :
    Try.prog.built 65 [(0, .agg (bys id).toArray), (1, .int .u32 (o : Int)), (2, .string (strB sc)), (3, .int .u32 (q : Int)), (4, .slice A n c)] = some (inC id o sc q (.slice A n c)).toArray := by
  have lp : (bys id).length = 32 := by rw [bys_len]; exact h
  have lz : (bys z32).length = 32 := by rw [bys_len]; rfl
  rw [built_rfill]
  have s0 := fill_part ([((0 : Nat), (32 : Nat)), (32, 1), (33, 1), (34, 1), (35, 1)].toArray[·]?) 0 0 32 rfl [] (bys z32) [.int .u32 ((0 : Nat) : Int), .string (strB []), .int .u32 ((0 : Nat) : Int), .slice none 0 0] (bys id) rfl lz lp (.agg (bys id).toArray) rfl
  have s1 := fill_part ([((0 : Nat), (32 : Nat)), (32, 1), (33, 1), (34, 1), (35, 1)].toArray[·]?) 1 32 1 rfl (bys id) [.int .u32 ((0 : Nat) : Int)] [.string (strB []), .int .u32 ((0 : Nat) : Int), .slice none 0 0] [.int .u32 (o : Int)] lp rfl rfl (.int .u32 (o : Int)) rfl
  have s2 := fill_part ([((0 : Nat), (32 : Nat)), (32, 1), (33, 1), (34, 1), (35, 1)].toArray[·]?) 2 33 1 rfl (bys id ++ [.int .u32 (o : Int)]) [.string (strB [])] [.int .u32 ((0 : Nat) : Int), .slice none 0 0] [.string (strB sc)] (by simp [lp]) rfl rfl (.string (strB sc)) rfl
  have s3 := fill_part ([((0 : Nat), (32 : Nat)), (32, 1), (33, 1), (34, 1), (35, 1)].toArray[·]?) 3 34 1 rfl (bys id ++ [.int .u32 (o : Int)] ++ [.string (strB sc)]) [.int .u32 ((0 : Nat) : Int)] [.slice none 0 0] [.int .u32 (q : Int)] (by simp [lp]) rfl rfl (.int .u32 (q : Int)) rfl
  have s4 := fill_part ([((0 : Nat), (32 : Nat)), (32, 1), (33, 1), (34, 1), (35, 1)].toArray[·]?) 4 35 1 rfl (bys id ++ [.int .u32 (o : Int)] ++ [.string (strB sc)] ++ [.int .u32 (q : Int)]) [.slice none 0 0] [] [.slice A n c] (by simp [lp]) rfl rfl (.slice A n c) rfl
  simp only [List.nil_append, List.append_nil, List.append_assoc, List.cons_append] at s0 s1 s2 s3 s4
  rw [show ZIN = bys z32 ++ [.int .u32 ((0 : Nat) : Int), .string (strB []), .int .u32 ((0 : Nat) : Int), .slice none 0 0] from rfl, s0, s1, s2, s3, s4]
  rfl

theorem cpr_there (T : TypeId) (w : World) (C : List Value) (hC : C.length = 36) : (w.alloc (.cells ZIN.toArray T)).there w.heap.size 0 C.toArray.size := by
  have := there_new w ZIN.toArray T 36 (by simp [ZIN_len])
  simpa [hC] using this
theorem cpr_pack (T : TypeId) (w : World) (C : List Value) (hC : C.length = 36) :
    ∃ W5, W5 = (w.alloc (.cells ZIN.toArray T)).setCells w.heap.size 0 C ∧ Blk W5 w.heap.size T C.toArray ∧ Below w.heap.size w W5 ∧ W5.heap.size = w.heap.size + 1 :=
  ⟨_, rfl, (Blk.new w T ZIN.toArray).stored C (by simp [hC, ZIN_len]), Below.setCells' ((Below.refl _ _).alloc (Nat.le_refl _) _) _ _ (Nat.le_refl _) _, by rw [size_setCells]; simp⟩

/-- While a transaction is laid as the reference has it: its box is block gt, all that is written lies at gt or behind. -/
structure PlS (W wi : World) (gt : Nat) (ver : Int) (lk : Nat) (vI : Value) (LI : List MIn) (vO : Value) (LO : List TOut) : Prop where
  b : Below gt W wi
  box : Bx4 wi gt (.int .i32 ver) vI vO (.int .u32 (lk : Int))
  oi : wi.ownsRow (gt + 1) 65 36 vI LI.length (LI.flatMap MIn.cells)
  oo : wi.ownsRow (gt + 1) 66 2 vO LO.length (LO.flatMap TOut.cells)
  gw : gt ≤ W.heap.size
  ap : ∀ k, vI.ownBlock = some k → vO.ownBlock ≠ some k
section
variable {W wi wj : World} {gt : Nat} {ver : Int} {lk : Nat} {vI vO : Value} {LI : List MIn} {LO : List TOut}
theorem PlS.more (h : PlS W wi gt ver lk vI LI vO LO) (t : Below wi.heap.size wi wj) : PlS W wj gt ver lk vI LI vO LO :=
  ⟨h.b.trans (t.mono (by have := h.b.size; have := h.gw; omega)), h.box.keep (t.block _ h.box.lt), ownN_below h.oi t (fun k hk => (h.oi.lt k hk).2), ownN_below h.oo t (fun k hk => (h.oo.lt k hk).2), h.gw, h.ap⟩
theorem PlS.drew (h : PlS W wi gt ver lk vI LI vO LO) : PlS W wi.drew gt ver lk vI LI vO LO := h.more (Below.drew' (Below.refl _ _))
theorem PlS.addIn (h : PlS W wi gt ver lk vI LI vO LO) (x : MIn) (hx : x.cells.length = 36) (hl : LI.length ≤ 100000) :
    ∃ v6 w6, (Builtin.append_ #[35, 35] 35 #[vI, .slice (some ⟨wi.heap.size, 0, none⟩) 1 1]).run Try.prog (wi.alloc (.cells x.cells.toArray 65)) = .ok v6 w6 ∧
      w6.cell? ⟨gt, 1, none⟩ = some vI ∧ w6.frozen? ⟨gt, 1, none⟩ = false ∧ PlS W (w6.setCell ⟨gt, 1, none⟩ v6) gt ver lk v6 (LI ++ [x]) vO LO := by
  have hbl : gt + 1 ≤ wi.heap.size := h.box.lt
  obtain ⟨v6, w6, q1, q2, q3, q4⟩ := app_rin wi (gt + 1) vI LI.length _ h.oi x.cells hx inC_one (by omega) hbl
  have hlt := h.oi.lt
  have hot := h.oo.lt
  have t1 : Tch wi w6 vI.ownBlock.toList := Tch.of_grown q3 (fun k hk => by rw [hk]; simp)
  have hout : ∀ k, k ≤ gt → k ∉ vI.ownBlock.toList := fun k hk hm => by
    simp at hm
    have := (hlt k hm).1
    omega
  have hb6 := h.box.keep (t1.block gt h.box.lt (hout gt (Nat.le_refl _)))
  have ho6 := ownN_keep h.oo (fun k hk => t1.block k (hot k hk).2 (fun hm => by simp at hm; exact h.ap k hm hk))
  have t2 : Tch w6 (w6.setCell ⟨gt, 1, none⟩ v6) [gt] := Tch.of_grown (grown_setCell _ _ _) (by simp)
  have hn6 : ∀ k, v6.ownBlock = some k → gt + 1 ≤ k := fun k hk => (q2.lt k hk).1
  have hgw := h.gw
  have hbs := h.b.size
  refine ⟨v6, w6, q1, hb6.c1, hb6.cold 1, ?_, hb6.set1 v6, ?_, ?_, h.gw, ?_⟩
  · exact (h.b.trans (t1.below (by omega) (fun i hi => by simp at hi; have := (hlt i hi).1; omega))).trans (t2.below (by have := t1.size; omega) (by simp))
  · rw [List.length_append, List.flatMap_append]
    refine ownN_keep (xs := LI.flatMap MIn.cells ++ [x].flatMap MIn.cells) (by simpa using q2) (fun k hk => t2.block k (q2.lt k hk).2 (by have := hn6 k hk; simp; omega))
  · exact ownN_keep ho6 (fun k hk => t2.block k (Nat.lt_of_lt_of_le (hot k hk).2 t1.size) (by have := (hot k hk).1; simp; omega))
  · intro k hk hk'
    rcases q4 with e | e
    · rw [e] at hk; exact h.ap k hk hk'
    · have := e k hk; have := (hot k hk').2; omega
theorem PlS.addOut (h : PlS W wi gt ver lk vI LI vO LO) (x : TOut) (hl : LO.length ≤ 100000) :
    ∃ v6 w6, (Builtin.append_ #[36, 36] 36 #[vO, .slice (some ⟨wi.heap.size, 0, none⟩) 1 1]).run Try.prog (wi.alloc (.cells x.cells.toArray 66)) = .ok v6 w6 ∧
      w6.cell? ⟨gt, 2, none⟩ = some vO ∧ w6.frozen? ⟨gt, 2, none⟩ = false ∧ PlS W (w6.setCell ⟨gt, 2, none⟩ v6) gt ver lk vI LI v6 (LO ++ [x]) := by
  have hbl : gt + 1 ≤ wi.heap.size := h.box.lt
  obtain ⟨v6, w6, q1, q2, q3, q4⟩ := app_rout wi (gt + 1) vO LO.length _ h.oo x (by omega) hbl
  have hlt := h.oo.lt
  have hot := h.oi.lt
  have t1 : Tch wi w6 vO.ownBlock.toList := Tch.of_grown q3 (fun k hk => by rw [hk]; simp)
  have hout : ∀ k, k ≤ gt → k ∉ vO.ownBlock.toList := fun k hk hm => by
    simp at hm
    have := (hlt k hm).1
    omega
  have hb6 := h.box.keep (t1.block gt h.box.lt (hout gt (Nat.le_refl _)))
  have ho6 := ownN_keep h.oi (fun k hk => t1.block k (hot k hk).2 (fun hm => by simp at hm; exact h.ap k hk hm))
  have t2 : Tch w6 (w6.setCell ⟨gt, 2, none⟩ v6) [gt] := Tch.of_grown (grown_setCell _ _ _) (by simp)
  have hn6 : ∀ k, v6.ownBlock = some k → gt + 1 ≤ k := fun k hk => (q2.lt k hk).1
  have hgw := h.gw
  have hbs := h.b.size
  refine ⟨v6, w6, q1, hb6.c2, hb6.cold 2, ?_, hb6.set2 v6, ?_, ?_, h.gw, ?_⟩
  · exact (h.b.trans (t1.below (by omega) (fun i hi => by simp at hi; have := (hlt i hi).1; omega))).trans (t2.below (by have := t1.size; omega) (by simp))
  · exact ownN_keep ho6 (fun k hk => t2.block k (Nat.lt_of_lt_of_le (hot k hk).2 t1.size) (by have := (hot k hk).1; simp; omega))
  · rw [List.length_append, List.flatMap_append]
    refine ownN_keep (xs := LO.flatMap TOut.cells ++ [x].flatMap TOut.cells) (by simpa using q2) (fun k hk => t2.block k (q2.lt k hk).2 (by have := hn6 k hk; simp; omega))
  · intro k hk hk'
    rcases q4 with e | e
    · rw [e] at hk'; exact h.ap k hk hk'
    · have := e k hk'; have := (hot k hk).2; omega
end
end Go.Proofs.Ytkdkihacpjhgmaa
