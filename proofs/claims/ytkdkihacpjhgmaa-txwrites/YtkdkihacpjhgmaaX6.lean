/- Walks: (tx.In).put. -/
import Derived.Test.YtkdkihacpjhgmaaX5
namespace Go.Proofs.Ytkdkihacpjhgmaa
set_option linter.unusedSimpArgs false
set_option linter.unusedVariables false
open Go.RowKit

theorem blk_rd {w : World} {g : Nat} {t : TypeId} {C : List Value} (h : Blk w g t C.toArray) (off n : Nat) (l : List Value) (hn : l.length = n) (hl : ∀ i u, l[i]? = some u → C[off + i]? = some u) : Rd w w.heap.size (some ⟨g, off, none⟩) n l :=
  ⟨hn, fun _ => ⟨g, off, rfl, h.lt, fun j u hu => h.cell (off + j) u (hl j u hu)⟩⟩
theorem putL_any (X : Nat) (hX : X < 18446744073709551616) (k : Nat) (hk : k ≤ 8) (w : World) (base : Nat) {v : Value} {n : Nat} {xs : List Nat} (hbuf : Buf w base v n (bys xs)) (hn : n ≤ 1000000000) (hbase : base ≤ w.heap.size) :
    Calls Try.prog 31 #[v, .int .u64 (X : Int), .int .i64 (k : Int)] w fun e w' => ∃ v', e = .returned v' ∧ Laid w base v w' v' (n + k) (bys (xs ++ M.leB X k)) := by
  refine (putLittle_any (X : Int) (by omega) (by omega) (k : Int) w base hbuf hn hbase).mono ?_
  rintro e w' ⟨v', rfl, hl⟩
  have hkk : kk (k : Int) = k := by unfold kk; omega
  rw [hkk, Int.toNat_natCast, ← bys_app] at hl
  exact ⟨v', rfl, hl⟩
theorem Laid.kept {w w' : World} {base : Nat} {v v' : Value} {n' : Nat} {xs' : List Value} {g : Nat} {t : TypeId} {cs : Array Value} (h : Laid w base v w' v' n' xs') (hb : Blk w g t cs) (hne : v.ownBlock ≠ some g) : Blk w' g t cs :=
  (h.grown.block g hb.lt (fun e => hne e.symm)).trans hb
theorem inB_len (x : TIn) (h : x.id.length = 32) : (inB x).length = 32 + 4 + (txt x.sc).length + 4 := by
  unfold inB
  rw [List.length_append, List.length_append, List.length_append, h, M.leB_len, M.leB_len]

set_option maxHeartbeats 2000000 in
set_option maxRecDepth 100000 in
theorem inPut_any (x : MIn) (hok : x.p.ok) (hsl : (x.p.sc.length : Int) ≤ 100000000) (w : World) (base : Nat) {v : Value} {n : Nat} {xs : List Nat} (hbuf : Buf w base v n (bys xs)) (hn : n ≤ 300000000) (hbase : base ≤ w.heap.size) :
    Calls Try.prog 33 #[.agg x.cells.toArray, v] w fun e w' => ∃ v', e = .returned v' ∧ Laid w base v w' v' (n + (inB x.p).length) (bys (xs ++ inB x.p)) := by
  obtain ⟨i0, hi5, hz0, hz1, hz2⟩ := info_parts Try.info5
  obtain ⟨⟨id, out, sc, seq, wit⟩, A, c⟩ := x
  have hat := inC_at (out := out) (sc := sc) (seq := seq) (W := .slice A wit.length c) hok.id
  have hid := fun i u hu => inC_id (id := id) (out := out) (sc := sc) (seq := seq) (W := .slice A wit.length c) i u hu
  have hIL := inB_len ⟨id, out, sc, seq, wit⟩ hok.id
  have hsc := hok.sc
  have lid : (bys id).length = 32 := by rw [bys_len]; exact hok.id
  have ho := hok.out
  have hq := hok.seq
  simp only at hsc hsl ho hq hIL
  have HIB : Hid (inB ⟨id, out, sc, seq, wit⟩ = ((id ++ M.leB out 4) ++ txt sc) ++ M.leB seq 4) := Lib.hid rfl
  show Calls Try.prog 33 #[.agg (inC id out sc seq (.slice A wit.length c)).toArray, v] w _
  rw [hIL, HIB.out]
  clear hIL HIB
  generalize inC id out sc seq (.slice A wit.length c) = C at *
  obtain ⟨W3, e3⟩ : ∃ W3, W3 = w.alloc (.cells C.toArray 58) := ⟨_, rfl⟩
  have k0 : Blk W3 w.heap.size 58 C.toArray := by rw [e3]; exact Blk.new _ _ _
  have hne : v.ownBlock ≠ some w.heap.size := fun e => by have := (hbuf.lt _ e).2; omega
  have HTR : Hid (∀ w' v' m ys, Laid W3 base v w' v' m ys → Laid w base v w' v' m ys) := Lib.hid (fun w' v' m ys hL => by
    have h0 := (Laid.refl hbuf).alloc (.cells C.toArray 58)
    rw [← e3] at h0
    exact h0.trans hL)
  have hbf3 : Buf W3 base v n (bys xs) := by rw [e3]; exact hbuf.alloc _
  have hbs : base ≤ W3.heap.size := by rw [e3]; simp; omega
  have L3 := Lib.hid (Laid.refl hbf3)
  have r3 : Rd W3 W3.heap.size (some ⟨w.heap.size, 0, none⟩) 32 (bys id) := blk_rd k0 0 32 (bys id) lid (fun i u hu => by rw [Nat.zero_add]; exact hid i u hu)
  have HE3 := Lib.hid e3
  have HK0 := Lib.hid k0
  have HAT := Lib.hid hat
  have HNE := Lib.hid hne
  have htl : (txt sc).length ≤ sc.length + 9 := by unfold txt; rw [List.length_append]; have := compB_le sc.length; omega
  have HTL := Lib.hid htl
  have HSL := Lib.hid hsl
  clear k0 e3 hok hat hid hne htl hbuf hbase
  go_enter Try.func33, Try.ntmps33
  go_upto_region 1 with fail
  rw [← HE3.out]
  go_upto_region 2 with (at_builtin; refine wpList_append_buf _ rfl (.tmp 5) (.tmp 8) 27 rfl base 5 i0 (.int .u8 0) 1 Try.underlying27 hi5 hz0 hz1 hz2 rfl rfl hbf3 rfl r3 (bys_one _) ?b1 ?b2 ?b0 ?next)
  case b1 => unfold maxLen; omega
  case b2 => omega
  case b0 => exact hbs
  case next =>
    intro u4 w4 p1 p2 p3
    have hl4 : Laid W3 base v w4 u4 (n + 32) (bys xs ++ bys id) := ⟨p1, p2, p3⟩
    rw [← bys_app] at hl4
    have L4 := Lib.hid hl4
    have k4 := hl4.kept HK0.out HNE.out
    have c32 := k4.cell 32 _ HAT.out.1
    have hb4 := hl4.buf
    have hs4 := Nat.le_trans hbs hl4.grown.size
    clear p1 p2 p3 r3 hl4 k4 hbf3
    go_upto_region 2 with fail
    go_wp2_with fail
    refine (putL_any out (by omega) 4 (by omega) w4 base hb4 (by omega) hs4).mono ?_
    rintro e w5 ⟨u5, rfl, hl5⟩
    have L5 := Lib.hid (L4.out.trans hl5)
    have k5 := L5.out.kept HK0.out HNE.out
    have c33 := k5.cell 33 _ HAT.out.2.1
    have hb5 := hl5.buf
    have hs5 := Nat.le_trans hs4 hl5.grown.size
    clear hl5 k5 hb4 c32
    go_upto_region 3 with fail
    go_wp2_with fail
    refine (putText_any sc hsc hsl w5 base hb5 (by omega) hs5).mono ?_
    rintro e w6 ⟨u6, rfl, hl6⟩
    have L6 := Lib.hid (L5.out.trans hl6)
    have k6 := L6.out.kept HK0.out HNE.out
    have c34 := k6.cell 34 _ HAT.out.2.2.1
    have hb6 := hl6.buf
    have hs6 := Nat.le_trans hs5 hl6.grown.size
    have hn6 : n + 32 + 4 + (txt sc).length ≤ 1000000000 := by have := HTL.out; have := HSL.out; omega
    clear hl6 k6 hb5 c33
    go_upto_region 4 with fail
    go_wp2_with fail
    refine (putL_any seq (by omega) 4 (by omega) w6 base hb6 hn6 hs6).mono ?_
    rintro e w7 ⟨u7, rfl, hl7⟩
    have L7 := HTR.out _ _ _ _ (L6.out.trans hl7)
    have HE : Hid (Laid w base v w7 u7 (n + (32 + 4 + (txt sc).length + 4)) (bys (xs ++ (((id ++ M.leB out 4) ++ txt sc) ++ M.leB seq 4)))) := Lib.hid (by
      simp only [List.append_assoc, Nat.add_assoc] at L7 ⊢
      exact L7)
    clear hl7 L7 hb6 c34
    go_wp2
    go_ret
    exact ⟨_, rfl, HE.out⟩
end Go.Proofs.Ytkdkihacpjhgmaa
