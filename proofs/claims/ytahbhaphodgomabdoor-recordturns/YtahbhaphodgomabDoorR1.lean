/- Walks: record's check, headOf; bytes.Clone; slices.Grow. -/
import Derived.Test.YtahbhaphodgomabDoorN1
import Derived.Lib.AppendZerosOnto
namespace Go.Proofs.YtahbhaphodgomabDoor
set_option linter.unusedSimpArgs false
set_option linter.unusedVariables false
open Go.RowKit

/-- The walk's laws: append and copy by what their run gives. -/
theorem wpList_append_run {P : Program} {w : World} {ops : Array Oper} {rest : List Oper} {o : Oper} {a : Act} {Q : Exit → Act → World → Prop} (hgd : o.guard = none) (s x : Operand) (t u : TypeId)
    (ho : o.op = .call { callee := .builtin .append, args := #[s, x], argTypes := #[t, u] }) {v y v' : Value} {w' : World} (hs : a.eval s = v) (hx : a.eval x = y)
    (hrun : (Builtin.append_ #[t, u] o.type #[v, y]).run P w = .ok v' w') (hK : wpList P ops Q rest (a.put o.dst v') w') : wpList P ops Q (o :: rest) a w := by
  refine wpList_plain hgd fun K hK' => ?_
  unfold Oper.wp
  simp [execOp, ho, resolve, invoke, builtin, hs, hx, hrun, Result.andThen]
  exact hK' _ _ hK
theorem wpList_copy_by {P : Program} {w : World} {ops : Array Oper} {rest : List Oper} {o : Oper} {a : Act} {Q : Exit → Act → World → Prop} (hgd : o.guard = none) (s x : Operand) (t u : TypeId)
    (ho : o.op = .call { callee := .builtin .copy, args := #[s, x], argTypes := #[t, u] }) {v y v' : Value} {w' : World} (hs : a.eval s = v) (hx : a.eval x = y)
    (hrun : (Builtin.copy_ #[t, u] o.type #[v, y]).run P w = .ok v' w') (hK : wpList P ops Q rest (a.put o.dst v') w') : wpList P ops Q (o :: rest) a w := by
  refine wpList_plain hgd fun K hK' => ?_
  unfold Oper.wp
  simp [execOp, ho, resolve, invoke, builtin, hs, hx, hrun, Result.andThen]
  exact hK' _ _ hK

/-- A check as it is laid. -/
def ck (bs : List Nat) : Nat := mk (nt (crcR (nt 0) bs))
theorem ck_lt (bs : List Nat) : ck bs < 4294967296 := mk_lt _

set_option maxHeartbeats 400000 in
theorem check_any (A : Option Addr) (n c : Nat) (bs : List Nat) (w : World) (B : Nat) (hr : Rd w B A n (bys bs)) (hb : ∀ c ∈ bs, c < 256) (hn : n ≤ 1000000000) (ht : TabAt w) :
    Calls Tryd.prog 20 #[.slice A n c] w fun e w' => e = .returned (.int .u64 ((ck bs : Nat) : Int)) ∧ w = w' := by
  have HS := Lib.hid (sum_any A n c bs w B hr hb hn ht)
  have hlt := nt_lt _ (crcR_lt bs (nt 0) (nt_lt 0 (by omega)) hb)
  have HM := Lib.hid (fun w => mask_any (nt (crcR (nt 0) bs)) (by omega) w)
  have hck := ck_lt bs
  have HCK := Lib.hid (show mk (nt (crcR (nt 0) bs)) = ck bs from rfl)
  rw [HCK.out] at HM
  generalize ck bs = q at *
  clear ht HCK
  go_enter Tryd.func20, Tryd.ntmps20
  go_wp2_with fail
  refine HS.out.mono ?_
  rintro e w1 ⟨rfl, rfl⟩
  go_wp2_with fail
  refine (HM.out _).mono ?_
  rintro e w1 ⟨rfl, rfl⟩
  have hq : (q : Int) ≤ 4294967295 := by omega
  go_wp2_with fail
  go_ret
  exact ⟨rfl, rfl⟩

/-- A record's head. -/
def hdr (d : List Nat) : List Nat := M.leB d.length 4 ++ (M.leB (ck (M.leB d.length 4)) 4 ++ M.leB (ck d) 4)
theorem hdr_len (d : List Nat) : (hdr d).length = 12 := by simp [hdr, M.leB_len]
theorem hdr_lt (d : List Nat) : ∀ c ∈ hdr d, c < 256 := by
  intro c hc
  simp only [hdr, List.mem_append] at hc
  rcases hc with hc | hc | hc <;> exact M.leB_lt _ _ c hc
theorem kk4 : kk 4 = 4 := by decide

set_option maxHeartbeats 1000000 in
set_option maxRecDepth 100000 in
theorem headOf_any (A : Option Addr) (n c : Nat) (d : List Nat) (w : World) (B : Nat) (hB : B ≤ w.heap.size) (hr : Rd w B A n (bys d)) (hb : ∀ c ∈ d, c < 256) (hn : n ≤ 100000000) (ht : TabAt w) :
    Calls Tryd.prog 17 #[.slice A n c] w fun e w' => ∃ v, e = .returned v ∧ Laid w w.heap.size (.slice none 0 0) w' v 12 (bys (hdr d)) := by
  have hdl : d.length = n := by have := hr.1; rwa [bys_len] at this
  have hcl := ck_lt (M.leB n 4)
  have hcd := ck_lt d
  have HT := Lib.hid ht
  have HB := Lib.hid hb
  clear ht hb
  go_enter Tryd.func17, Tryd.ntmps17
  go_wp2_with fail
  refine (putLittle_any (n : Int) (by omega) (by omega) 4 w w.heap.size (Buf.nil w _) (by omega) (Nat.le_refl _)).mono ?_
  rintro e w1 ⟨v1, rfl, hl1⟩
  rw [kk4, Int.toNat_natCast, Nat.zero_add, List.nil_append] at hl1
  have hb1 := hl1.below (Buf.nil w _) (Nat.le_refl _)
  have hs1 := hb1.size
  obtain ⟨A1, c1, rfl, _, hr1⟩ := hl1.buf.slice
  go_wp2_with fail
  refine (check_any A1 4 c1 (M.leB n 4) w1 _ hr1 (M.leB_lt _ _) (by omega) (HT.out.below hb1 HT.out.1)).mono ?_
  rintro e w1' ⟨rfl, rfl⟩
  go_wp2_with fail
  refine (putLittle_any _ (by omega) (by omega) 4 w1 w.heap.size hl1.buf (by omega) hs1).mono ?_
  rintro e w2 ⟨v2, rfl, hl2⟩
  rw [kk4, Int.toNat_natCast] at hl2
  have hl12 := hl1.trans hl2
  have hb2 := hl12.below (Buf.nil w _) (Nat.le_refl _)
  have hs2 := hb2.size
  have hr2 := hr.below (hb2.mono hB)
  go_wp2_with fail
  refine (check_any A n c d w2 _ hr2 HB.out (by omega) (HT.out.below hb2 HT.out.1)).mono ?_
  rintro e w2' ⟨rfl, rfl⟩
  go_wp2_with fail
  refine (putLittle_any _ (by omega) (by omega) 4 w2 w.heap.size hl12.buf (by omega) hs2).mono ?_
  rintro e w3 ⟨v3, rfl, hl3⟩
  rw [kk4, Int.toNat_natCast] at hl3
  have hl := hl12.trans hl3
  go_wp2_with fail
  go_ret
  refine ⟨v3, rfl, ?_⟩
  have e1 : bys (hdr d) = bys (M.leB n 4) ++ bys (M.leB (ck (M.leB n 4)) 4) ++ bys (M.leB (ck d) 4) := by
    rw [hdr, hdl, bys_app, bys_app, List.append_assoc]
  rw [e1]
  exact hl

set_option maxHeartbeats 1000000 in
set_option maxRecDepth 100000 in
theorem grow_room (A : Option Addr) (n c m : Nat) (w : World) (hn : n ≤ c) (hc : c ≤ maxLen) (hm : n + m ≤ c) :
    Calls Tryd.prog 18 #[.slice A n c, .int .i64 (m : Int)] w fun e w' => e = .returned (.slice A n c) ∧ w = w' := by
  unfold maxLen at hc
  have h1 : ¬ ((m : Int) < 0) := by omega
  have h4 : ¬ ((0 : Int) < (m : Int) - ((c : Int) - (n : Int))) := by omega
  go_enter Tryd.func18, Tryd.ntmps18
  go_wp2
  go_ret
  exact ⟨rfl, rfl⟩

set_option maxHeartbeats 1000000 in
set_option maxRecDepth 100000 in
theorem grow_more (A : Option Addr) (n c m : Nat) (cs : List Value) (w : World) (hn : n ≤ c) (hm : c < n + m) (hb : n + m ≤ 1000000000000) (hcl : cs.length = c)
    (hold : (Builtin.firstCells 1 c (.slice A c c)).run Tryd.prog w.drew = .ok cs.toArray w.drew) :
    Calls Tryd.prog 18 #[.slice A n c, .int .i64 (m : Int)] w fun e w' => e = .returned (.slice (some ⟨w.heap.size, 0, none⟩) n (grownCap w (n + m) c 5)) ∧
      w.drew.alloc (.cells (cs.toArray ++ Builtin.zeroCells (Value.int .u8 0).cells (n + m - c) ++ Builtin.zeroCells (Value.int .u8 0).cells (grownCap w (n + m) c 5 - (n + m))) 5) = w' := by
  obtain ⟨i0, hi, hz0, hz1, hz2⟩ := info_parts Tryd.info5
  have h1 : ¬ ((m : Int) < 0) := by omega
  have h4 : (0 : Int) < (m : Int) - ((c : Int) - (n : Int)) := by omega
  have hck : c + (n + m - c) = n + m := by omega
  have hrz : ∀ ty, (Builtin.append_ #[22, 3] ty #[.slice A c c, .int .i64 ((m : Int) - ((c : Int) - (n : Int)))]).run Tryd.prog w =
      .ok (.slice (some ⟨w.heap.size, 0, none⟩) (n + m) (grownCap w (n + m) c 5)) (w.drew.alloc (.cells (cs.toArray ++ Builtin.zeroCells (Value.int .u8 0).cells (n + m - c) ++ Builtin.zeroCells (Value.int .u8 0).cells (grownCap w (n + m) c 5 - (n + m))) 5)) := fun ty => by
    have h := Lib.run_append_grow_zeros w 22 3 ty 5 i0 (.int .u8 0) .i64 .i64 Tryd.underlying22 Tryd.underlying3 hi hz0 A c c cs (by rw [hz1]; exact hold) (n + m - c) (by omega) (by omega) (by omega) (by omega)
      (by rw [hz2]; omega) (by rw [hck, hz2]; exact growslice_fits (by omega) (by omega))
    rw [hck] at h
    rw [show (m : Int) - ((c : Int) - (n : Int)) = ((n + m - c : Nat) : Int) by omega]
    exact h
  have hge := grownCap_ge w (n + m) c 5
  have hle := grownCap_le_maxLen w (n + m) c 5 (by unfold maxLen; omega)
  unfold maxLen at hle
  have hs1 := fun wx => run_slice_h (P := Tryd.prog) wx 22 5 i0 Tryd.underlying22 hi hz1 A n c c (Nat.le_refl _) .i64 (c : Int) rfl
  generalize hG : grownCap w (n + m) c 5 = G at *
  clear hG
  generalize hW : w.drew.alloc (.cells (cs.toArray ++ Builtin.zeroCells (Value.int .u8 0).cells (n + m - c) ++ Builtin.zeroCells (Value.int .u8 0).cells (G - (n + m))) 5) = W at *
  clear hW
  have hs2 := fun wx => run_slice_h (P := Tryd.prog) wx 22 5 i0 Tryd.underlying22 hi hz1 (some ⟨w.heap.size, 0, none⟩) (n + m) G n (by omega) .i64 (n : Int) rfl
  clear hold
  go_enter Tryd.func18, Tryd.ntmps18
  go_wp2_with (at_builtin; refine wpList_append_run rfl (.tmp 20) (.tmp 21) 22 3 rfl rfl rfl (hrz _) ?_)
  go_ret
  exact ⟨rfl, rfl⟩
end Go.Proofs.YtahbhaphodgomabDoor
