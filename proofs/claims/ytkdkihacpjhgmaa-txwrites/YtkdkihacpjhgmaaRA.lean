/- The reference: Count, Text; what it lays. -/
import Derived.Test.YtkdkihacpjhgmaaZ1
import Derived.Test.YtkdkihacpjhgmaaZ2
import Derived.Test.YtkdkihacpjhgmaaXK
import Derived.Test.YtkdkihacpjhgmaaConv
namespace Go.Proofs.Ytkdkihacpjhgmaa
set_option linter.unusedSimpArgs false
set_option linter.unusedVariables false
open Go.RowKit

/-- Bytes that are laid: nothing below W's end is touched. -/
structure OutB (W wr : World) (v : Value) (ys : List Nat) : Prop where
  b : Below W.heap.size W wr
  buf : Buf wr W.heap.size v ys.length (bys ys)
section
variable {W wr wj : World} {v : Value} {ys : List Nat}
theorem OutB.more (h : OutB W wr v ys) (t : Below wr.heap.size wr wj) : OutB W wj v ys :=
  ⟨h.b.trans (t.mono h.b.size), h.buf.below t (fun k hk => (h.buf.lt k hk).2)⟩
theorem OutB.app (h : OutB W wr v ys) {B m : Nat} {A : Option Addr} (c : Nat) {zs : List Nat} (hr : Rd wr B A m (bys zs)) (hn : (ys.length : Int) + m ≤ 100000000000) :
    ∃ v6 w6, (Builtin.append_ #[27, 27] 27 #[v, .slice A m c]).run Try.prog wr = .ok v6 w6 ∧ OutB W w6 v6 (ys ++ zs) ∧ wr.grownBy w6 v.ownBlock ∧ (v6.ownBlock = v.ownBlock ∨ ∀ k, v6.ownBlock = some k → wr.heap.size ≤ k) := by
  obtain ⟨i0, hi, hz0, hz1, hz2⟩ := info_parts Try.info5
  have hyl : zs.length = m := by have := hr.1; rwa [bys_len] at this
  obtain ⟨v6, w6, q1, q2, q3, q4⟩ := run_append_buf (P := Try.prog) wr W.heap.size 27 27 5 i0 _ 1 Try.underlying27 hi hz0 hz1 hz2 rfl h.buf hr (c := c) (bys_one _) (by unfold maxLen; omega) (by omega) h.b.size
  refine ⟨v6, w6, q1, ⟨?_, ?_⟩, q3, q4⟩
  · refine h.b.trans ((Below.refl _ _).grown q3 h.b.size (fun k hk => (h.buf.lt k hk).1))
  · rw [List.length_append, hyl, bys_app]; exact q2
end
/-- .. beside a block that is read. -/
structure OutX (W wr : World) (v : Value) (ys : List Nat) (g : Nat) (C : List Value) : Prop where
  o : OutB W wr v ys
  r : wr.rangeAt g 0 C
  lt : g < wr.heap.size
  ne : ∀ k, v.ownBlock = some k → k ≠ g
section
variable {W wr wj : World} {v : Value} {ys : List Nat} {g : Nat} {C : List Value}
theorem OutX.more (h : OutX W wr v ys g C) (t : Below wr.heap.size wr wj) : OutX W wj v ys g C := ⟨h.o.more t, rangeAt_below h.r t h.lt, Nat.lt_of_lt_of_le h.lt t.size, h.ne⟩
theorem OutX.app (h : OutX W wr v ys g C) {B m : Nat} {A : Option Addr} (c : Nat) {zs : List Nat} (hr : Rd wr B A m (bys zs)) (hn : (ys.length : Int) + m ≤ 100000000000) :
    ∃ v6 w6, (Builtin.append_ #[27, 27] 27 #[v, .slice A m c]).run Try.prog wr = .ok v6 w6 ∧ OutX W w6 v6 (ys ++ zs) g C := by
  obtain ⟨v6, w6, q1, q2, q3, q4⟩ := h.o.app c hr hn
  refine ⟨v6, w6, q1, q2, ?_, Nat.lt_of_lt_of_le h.lt q3.size, ?_⟩
  · intro j u hu
    rw [← h.r j u hu]
    simp only [World.cell?]
    rw [q3.block g h.lt (fun e => h.ne g e.symm rfl)]
  · intro k hk e
    subst e
    rcases q4 with e | e
    · rw [e] at hk; exact h.ne _ hk rfl
    · have := e _ hk; have := h.lt; omega
end

theorem lit1 (w : World) (x : Nat) : OutB w (w.alloc (.cells #[.int .u8 (x : Int)] 5)) (.slice (some ⟨w.heap.size, 0, none⟩) 1 1) [x] :=
  ⟨(Below.refl _ _).alloc (Nat.le_refl _) _, Buf.new w w.heap.size 5 #[.int .u8 (x : Int)] (0, 0) (Nat.le_refl _) (by simp [maxLen])⟩

set_option maxHeartbeats 1000000 in
set_option maxRecDepth 100000 in
theorem refcount_any (X : Nat) (hX : X ≤ 4294967295) (w : World) :
    Calls Try.prog 37 #[.int .i64 (X : Int)] w fun e w' => ∃ v', e = .returned v' ∧ OutB w w' v' (M.compB X) := by
  by_cases c1 : X < 253
  · have e2 : M.compB X = [X] := by unfold M.compB M.sg M.cs; rw [if_pos c1, if_pos c1]; rfl
    rw [e2]
    have HL := Lib.hid (lit1 w X)
    have c1' : (X : Int) < 253 := by omega
    have c2' : (X : Int) % 256 = X := by omega
    clear e2
    go_enter Try.func37, Try.ntmps37
    go_wp2
    go_ret
    exact ⟨_, rfl, HL.out⟩
  · have c1' : ¬ (X : Int) < 253 := by omega
    have c1d : decide ((X : Int) < 253) = false := by simp; omega
    by_cases c2 : X ≤ 65535
    · have e2 : M.compB X = [253] ++ M.leB X 2 := by unfold M.compB M.sg M.cs; rw [if_neg c1, if_neg c1, if_pos c2, if_pos c2]; rfl
      rw [e2]
      have c2' : (X : Int) < 65536 := by omega
      have HL := Lib.hid (lit1 w 253)
      have HLI := Lib.hid (fun W => reflittle_any X (by omega) 2 (by omega) W)
      have c3' : (X : Int) % 18446744073709551616 = X := by omega
      clear e2
      go_enter Try.func37, Try.ntmps37
      go_wp2_with fail
      refine (HLI.out _).mono ?_
      rintro ee w2 ⟨v2, rfl, bf2, b2⟩
      obtain ⟨A, c, rfl, hcl, hrd⟩ := bf2.slice
      obtain ⟨v6, w6, q1, q2, _, _⟩ := (HL.out.more b2).app c hrd (by simp)
      have HRUN := Lib.hid q1
      have HO := Lib.hid q2
      clear q1 q2 bf2 hrd b2
      go_wp2_with (show wpList _ _ _ (Oper.mk (some 14) _ _ _ _ _ :: _) _ _; refine arm_append 27 (.tmp 10) (.tmp 13) (v' := ?_) (w' := ?_) ?hr1 ?_; case hr1 => exact HRUN.out)
      go_ret
      exact ⟨_, rfl, HO.out⟩
    · have e2 : M.compB X = [254] ++ M.leB X 4 := by unfold M.compB M.sg M.cs; rw [if_neg c1, if_neg c1, if_neg c2, if_neg c2, if_pos (by omega), if_pos (by omega)]; rfl
      rw [e2]
      have c2' : ¬ (X : Int) < 65536 := by omega
      have c2d : decide ((X : Int) < 65536) = false := by simp; omega
      have HL := Lib.hid (lit1 w 254)
      have HLI := Lib.hid (fun W => reflittle_any X (by omega) 4 (by omega) W)
      have c3' : (X : Int) % 18446744073709551616 = X := by omega
      clear e2
      go_enter Try.func37, Try.ntmps37
      go_wp2_with fail
      refine (HLI.out _).mono ?_
      rintro ee w2 ⟨v2, rfl, bf2, b2⟩
      obtain ⟨A, c, rfl, hcl, hrd⟩ := bf2.slice
      obtain ⟨v6, w6, q1, q2, _, _⟩ := (HL.out.more b2).app c hrd (by simp)
      have HRUN := Lib.hid q1
      have HO := Lib.hid q2
      clear q1 q2 bf2 hrd b2
      go_wp2_with (show wpList _ _ _ (Oper.mk (some 19) _ _ _ _ _ :: _) _ _; refine arm_append 27 (.tmp 15) (.tmp 18) (v' := ?_) (w' := ?_) ?hr1 ?_; case hr1 => exact HRUN.out)
      go_ret
      exact ⟨_, rfl, HO.out⟩

set_option maxHeartbeats 1000000 in
set_option maxRecDepth 100000 in
theorem reftext_any (s : List Nat) (hs : B8 s) (hl : s.length ≤ 100000000) (w : World) :
    Calls Try.prog 38 #[.string (strB s)] w fun e w' => ∃ v', e = .returned v' ∧ OutB w w' v' (txt s) := by
  have HCT := Lib.hid (fun W => refcount_any s.length (by omega) W)
  have hsz : (strB s).size = s.length := strB_size s
  have HS := Lib.hid hs
  have HLL := Lib.hid hl
  have HSZ := Lib.hid hsz
  go_enter Try.func38, Try.ntmps38
  go_wp2_with fail
  refine (HCT.out _).mono ?_
  rintro ee w2 ⟨v2, rfl, o2⟩
  have kc := conv_back (P := Try.prog) w2 9 27 5 s Try.underlying9 Try.underlying27 Try.underlying5
  obtain ⟨WX, eX⟩ : ∃ WX, WX = Lib.bytesWorld w2 5 (strB s) := ⟨_, rfl⟩
  have bX : Below w2.heap.size w2 WX := by rw [eX]; exact bytes_below w2 _ _
  have rX : Rd WX (w2.heap.size + 1) (some ⟨w2.heap.size, 0, none⟩) s.length (bys s) := by rw [eX]; exact bytes_rd w2 _ s HS.out
  rw [← eX] at kc
  obtain ⟨CP, eC⟩ : ∃ CP, CP = grownCap w2 s.length 0 5 := ⟨_, rfl⟩
  rw [← eC] at kc
  obtain ⟨v6, w6, q1, q2, _, _⟩ := (o2.more bX).app CP rX (by have := compB_le s.length; have := HLL.out; omega)
  have HRUN := Lib.hid q1
  have HO : Hid (OutB w w6 v6 (txt s)) := Lib.hid q2
  clear q1 q2 rX bX eX eC o2
  go_wp2_with (show wpList _ _ _ (Oper.mk (some 8) _ _ _ _ _ :: _) _ _; refine arm_append 27 (.tmp 5) (.tmp 7) (v' := ?_) (w' := ?_) ?hr1 ?_; case hr1 => exact HRUN.out)
  go_ret
  exact ⟨_, rfl, HO.out⟩

set_option maxHeartbeats 2000000 in
set_option maxRecDepth 100000 in
theorem refhas_any (w : World) (t : MTx) (h : TxAt w w.heap.size t) :
    Calls Try.prog 24 #[t.val] w fun e w' => e = .returned (.bool (hasW t.p)) ∧ Below w.heap.size w w' := by
  obtain ⟨ver, ins, ia, ic, outs, oa, oc, lock⟩ := t
  have hil : (ins.length : Int) ≤ 9223372036854775807 := by have h1 := h.il; have h2 := h.ic; simp only at h1 h2; omega
  have HT := Lib.hid h
  have HH : Hid (hasW (MTx.p ⟨ver, ins, ia, ic, outs, oa, oc, lock⟩) = ins.any fun x => decide (0 < x.p.wit.length)) := Lib.hid (by unfold hasW MTx.p; rw [List.any_map]; rfl)
  show Calls Try.prog 24 #[.agg #[.int .i32 ver, .slice ia ins.length ic, .slice oa outs.length oc, .int .u32 (lock : Int)]] w _
  generalize hasW (MTx.p ⟨ver, ins, ia, ic, outs, oa, oc, lock⟩) = R at *
  obtain ⟨n, hn⟩ : ∃ n, n = ins.length := ⟨_, rfl⟩
  obtain ⟨m, hm⟩ : ∃ m, m = outs.length := ⟨_, rfl⟩
  rw [← hn] at hil ⊢
  rw [← hm]
  have HN := Lib.hid hn
  obtain ⟨W3, e3⟩ : ∃ W3, W3 = w.alloc (.cells #[.int .i32 ver, .slice ia n ic, .slice oa m oc, .int .u32 (lock : Int)] 38) := ⟨_, rfl⟩
  have b3 : Below w.heap.size w W3 := by rw [e3]; exact (Below.refl _ _).alloc (Nat.le_refl _) _
  have k3 : Bx4 W3 w.heap.size (.int .i32 ver) (.slice ia n ic) (.slice oa m oc) (.int .u32 (lock : Int)) := by rw [e3]; exact Bx4.new _ _ _ _ _ _
  have HB3 := Lib.hid b3
  have HE3 := Lib.hid e3
  have c1 := k3.c1
  clear e3 b3 k3 hn hm h
  go_enter Try.func24, Try.ntmps24
  go_upto_region 1 with fail
  rw [← HE3.out]
  go_upto_region 2 with fail
  clear c1
  go_loopg [4, 8] n (fun kx s4 s8 wr => ∃ (i : Nat), i ≤ n ∧ s8 = .int .i64 i ∧ n - i ≤ kx ∧ Hid (Below w.heap.size w wr) ∧ Hid (R = (ins.drop i).any fun x => decide (0 < x.p.wit.length)))
  case atStart => exact ⟨0, Nat.zero_le _, rfl, Nat.le_refl _, HB3, Lib.hid (by rw [List.drop_zero]; exact HH.out)⟩
  case round =>
    obtain ⟨i, hi, rfl, hk, HW, HR⟩ := hrel
    by_cases hlt : i < n
    · obtain ⟨x, hx⟩ : ∃ x, ins[i]? = some x := ⟨_, List.getElem?_eq_getElem (by have := HN.out; omega)⟩
      have HR2 : Hid (R = (decide (0 < x.p.wit.length) || (ins.drop (i + 1)).any fun x => decide (0 < x.p.wit.length))) := Lib.hid (by
        have hi2 := (List.getElem?_eq_some_iff.1 hx).1
        rw [HR.out, List.drop_eq_getElem_cons hi2, List.any_cons, (List.getElem?_eq_some_iff.1 hx).2])
      obtain ⟨ga, offa, hgaa, hga, cxa⟩ := (HT.out.below HW.out).inp i x hx
      simp only at hgaa
      subst hgaa
      have HIAa := Lib.hid ((HT.out.below HW.out).iat x (List.mem_of_getElem? hx))
      have hlena : (x).cells.length = 36 := MIn.len HIAa.out.ok
      have HATa := Lib.hid (show (x).cells[32]? = _ ∧ (x).cells[33]? = _ ∧ (x).cells[34]? = _ ∧ (x).cells[35]? = _ from inC_at (out := (x).p.out) (sc := (x).p.sc) (seq := (x).p.seq) (W := .slice (x).wa (x).p.wit.length (x).wc) HIAa.out.ok.id)
      have HAIa := Lib.hid (show ∀ (j : Nat) (u : Value), (bys (x).p.id)[j]? = some u → (x).cells[j]? = some u from fun j u hu => inC_id j u hu)
      have honea : ∀ u ∈ (x).cells, u.oneCell' = true := inC_one
      obtain ⟨Ca, hCa⟩ : ∃ C, C = (x).cells := ⟨_, rfl⟩
      rw [← hCa] at HATa HAIa honea hlena cxa
      have HCa := Lib.hid hCa
      have HTHa := Lib.hid (cpr_there 65 wr Ca hlena)
      obtain ⟨Wa, ea, kba, ba, sa⟩ := cpr_pack 65 wr Ca hlena
      have KBa := Lib.hid kba
      have HBa := Lib.hid (HW.out.trans (ba.mono HW.out.size))
      have HDa := Lib.hid ba
      have HSa := Lib.hid sa
      have HCXa := Lib.hid cxa
      have HS1a := Lib.hid (show (Try.prog.info? 65).map (·.size) = some Ca.length by rw [hlena]; exact Try.sizeRIn)
      have HS2a := Lib.hid (show (Try.prog.info? 65).map (·.size) = some Ca.toArray.size by rw [List.size_toArray, hlena]; exact Try.sizeRIn)
      have HONEa := Lib.hid (all_oneCell_toArray honea)
      have HEa := Lib.hid ea
      clear honea hlena cxa kba ba sa ea hCa
      go_upto_region 4 with (first
        | (show wpList _ _ _ (Oper.mk (some 11) _ _ _ _ _ :: _) _ _; refine wpList_load_mid rfl 65 (.tmp 10) rfl ga (offa + i * 36) rfl Ca _ HCXa.out Try.underlying65 rfl HS1a.out ?_)
        | (show wpList _ _ _ (Oper.mk (some 4) _ _ _ _ _ :: _) _ _; refine wpList_of_wp rfl fun K hK => wp_alloc_arr 65 rfl ZIN.toArray Try.zeroRIn (hK _ _ ?_))
        | (show wpList _ _ _ (Oper.mk none _ _ _ _ _ :: _) _ _; refine wpList_store_mid rfl 65 (.tmp 4) (.tmp 11) rfl wr.heap.size 0 Ca.toArray rfl rfl HTHa.out HS2a.out HONEa.out ?_))
      rw [← HEa.out]
      have c35 := KBa.out.cell 35 _ HATa.out.2.2.2
      have hwl : (x.p.wit.length : Int) ≤ 9223372036854775807 := by have h1 := HIAa.out.wl; have h2 := HIAa.out.wc; omega
      clear hx
      generalize x.p.wit.length = k at *
      by_cases h0 : 0 < k
      · have h0' : (0 : Int) < (k : Int) := by omega
        have HT1 : Hid (R = true) := Lib.hid (by rw [HR2.out, decide_eq_true h0]; rfl)
        go_wp2
        go_ret
        rw [HT1.out]
        exact ⟨rfl, HBa.out⟩
      · have hk0 : k = 0 := by omega
        have HT1 : Hid (R = (ins.drop (i + 1)).any fun x => decide (0 < x.p.wit.length)) := Lib.hid (by rw [HR2.out, decide_eq_false h0]; rfl)
        subst hk0
        clear h0 hwl
        go_wp2
        go_roundg (n - (i + 1))
        case measure => omega
        case rel => exact ⟨i + 1, by omega, by go_num, Nat.le_refl _, HBa, HT1⟩
    · have HT1 : Hid (R = false) := Lib.hid (by rw [HR.out, List.drop_of_length_le (by have := HN.out; omega)]; rfl)
      go_wp2
      go_ret
      rw [HT1.out]
      exact ⟨rfl, HW.out⟩
end Go.Proofs.Ytkdkihacpjhgmaa
