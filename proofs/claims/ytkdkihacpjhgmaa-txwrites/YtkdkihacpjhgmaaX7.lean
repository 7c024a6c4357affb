/- Walks: (tx.Tx).putWitnesses. -/
import Derived.Test.YtkdkihacpjhgmaaX6
namespace Go.Proofs.Ytkdkihacpjhgmaa
set_option linter.unusedSimpArgs false
set_option linter.unusedVariables false
open Go.RowKit

theorem Laid.more {w w' w'' : World} {base : Nat} {v v' : Value} {n' : Nat} {xs' : List Value} (h : Laid w base v w' v' n' xs') (hb : Below w'.heap.size w' w'') : Laid w base v w'' v' n' xs' :=
  ⟨h.buf.below hb (fun k hk => (h.buf.lt k hk).2), ⟨hb.os.trans h.grown.os, hb.tape.trans h.grown.tape, hb.output.trans h.grown.output, Nat.le_trans h.grown.size hb.size, fun i hi hne => (hb.block i (Nat.lt_of_lt_of_le hi h.grown.size)).trans (h.grown.block i hi hne)⟩, h.own⟩
/-- Laid, told by the bytes alone. -/
def LaidB (w : World) (base : Nat) (v : Value) (w' : World) (v' : Value) (ys : List Nat) : Prop := Laid w base v w' v' ys.length (bys ys)
theorem LaidB.step {w w1 w2 : World} {base : Nat} {v v1 v2 : Value} {ys zs : List Nat} {k : Nat} (h : LaidB w base v w1 v1 ys) (g : Laid w1 base v1 w2 v2 (ys.length + k) (bys (ys ++ zs))) (hk : zs.length = k) : LaidB w base v w2 v2 (ys ++ zs) := by
  have := Laid.trans h g
  unfold LaidB
  rwa [List.length_append, hk]
theorem LaidB.buf {w w' : World} {base : Nat} {v v' : Value} {ys : List Nat} (h : LaidB w base v w' v' ys) : Buf w' base v' ys.length (bys ys) := Laid.buf h
theorem LaidB.more {w w' w'' : World} {base : Nat} {v v' : Value} {ys : List Nat} (h : LaidB w base v w' v' ys) (hb : Below w'.heap.size w' w'') : LaidB w base v w'' v' ys := Laid.more h hb
theorem LaidB.size {w w' : World} {base : Nat} {v v' : Value} {ys : List Nat} (h : LaidB w base v w' v' ys) : w.heap.size ≤ w'.heap.size := (Laid.grown h).size

def fm {α : Type} (f : TIn → List α) (l : List MIn) : List α := (l.map (·.p)).flatMap f
theorem fm_app {α : Type} (f : TIn → List α) (a b : List MIn) : fm f (a ++ b) = fm f a ++ fm f b := by simp [fm]
theorem fm_one {α : Type} (f : TIn → List α) {l : List MIn} {i : Nat} {x : MIn} (h : l[i]? = some x) : fm f (l.take (i + 1)) = fm f (l.take i) ++ f x.p := by
  rw [take_one h, fm_app]; simp [fm]
theorem fm_le {α : Type} (f : TIn → List α) (l : List MIn) (i : Nat) : (fm f (l.take i)).length ≤ (fm f l).length := by
  conv => rhs; rw [← List.take_append_drop i l, fm_app, List.length_append]
  omega
theorem fml_one {f : List Nat → List Nat} {l : List (List Nat)} {i : Nat} {x : List Nat} (h : l[i]? = some x) : (l.take (i + 1)).flatMap f = (l.take i).flatMap f ++ f x := by
  rw [take_one h, List.flatMap_append]; simp
theorem fml_le (f : List Nat → List Nat) (l : List (List Nat)) (i : Nat) : ((l.take i).flatMap f).length ≤ (l.flatMap f).length := by
  conv => rhs; rw [← List.take_append_drop i l, List.flatMap_append, List.length_append]
  omega

set_option maxHeartbeats 4000000 in
set_option maxRecDepth 100000 in
theorem putWits_any (w : World) (base : Nat) (t : MTx) (h : TxAt w base t) (hbase : base ≤ w.heap.size) {v : Value} {xs : List Nat} (hbuf : Buf w base v xs.length (bys xs)) (hN : xs.length + (fm witB t.ins).length ≤ 100000000) :
    Calls Try.prog 35 #[t.val, v] w fun e w' => ∃ v', e = .returned v' ∧ LaidB w base v w' v' (xs ++ fm witB t.ins) := by
  obtain ⟨ver, ins, ia, ic, outs, oa, oc, lock⟩ := t
  have hil : (ins.length : Int) ≤ 9223372036854775807 := by have h1 := h.il; have h2 := h.ic; simp only at h1 h2; omega
  have HT := Lib.hid h
  simp only at hN
  show Calls Try.prog 35 #[.agg #[.int .i32 ver, .slice ia ins.length ic, .slice oa outs.length oc, .int .u32 (lock : Int)], v] w fun e w' => ∃ v', e = .returned v' ∧ LaidB w base v w' v' (xs ++ fm witB ins)
  obtain ⟨n, hn⟩ : ∃ n, n = ins.length := ⟨_, rfl⟩
  obtain ⟨m, hm⟩ : ∃ m, m = outs.length := ⟨_, rfl⟩
  rw [← hn] at hil ⊢
  rw [← hm]
  have HN := Lib.hid hn
  have HBD := Lib.hid hN
  obtain ⟨W3, e3⟩ : ∃ W3, W3 = w.alloc (.cells #[.int .i32 ver, .slice ia n ic, .slice oa m oc, .int .u32 (lock : Int)] 26) := ⟨_, rfl⟩
  have hB3 : Below w.heap.size w W3 := by rw [e3]; exact (Below.refl _ _).alloc (Nat.le_refl _) _
  have k0 : Bx4 W3 w.heap.size (.int .i32 ver) (.slice ia n ic) (.slice oa m oc) (.int .u32 (lock : Int)) := by rw [e3]; exact Bx4.new _ _ _ _ _ _
  have c1 := k0.c1
  have L3 : Hid (LaidB w base v W3 v xs) := Lib.hid (LaidB.more (Laid.refl hbuf) hB3)
  have HE3 := Lib.hid e3
  have HBASE := Lib.hid hbase
  have HBF := Lib.hid hbuf
  clear hB3 k0 e3 h hn hm hbuf hN hbase
  go_enter Try.func35, Try.ntmps35
  go_upto_region 1 with fail
  rw [← HE3.out]
  go_upto_region 2 with fail
  clear c1
  go_loopg [1, 6, 8, 12] n (fun kx s1 s6 s8 s12 wr => ∃ (i : Nat) (ys : List Nat), i ≤ n ∧ s12 = .int .i64 i ∧ n - i ≤ kx ∧ Hid (LaidB w base v wr s1 ys) ∧ Hid (ys = xs ++ fm witB (ins.take i)))
  case atStart => exact ⟨0, xs, Nat.zero_le _, rfl, Nat.le_refl _, L3, Lib.hid (by simp [fm])⟩
  case round =>
    obtain ⟨i, ys, hi, rfl, hk, HL, HY⟩ := hrel
    have HW : Hid (Below base w wr) := Lib.hid (Laid.below HL.out HBF.out HBASE.out)
    have HBW : Hid (base ≤ wr.heap.size) := Lib.hid (Nat.le_trans HBASE.out HL.out.size)
    by_cases hlt : i < n
    · obtain ⟨x, hx⟩ : ∃ x, ins[i]? = some x := ⟨_, List.getElem?_eq_getElem (by have := HN.out; omega)⟩
      have HX1 := Lib.hid (fm_one witB hx)
      have HX2 := Lib.hid (fm_le witB ins (i + 1))
      obtain ⟨g, off, rfl, hg, cx⟩ := (HT.out.below HW.out).inp i x hx
      have HIA := Lib.hid ((HT.out.below HW.out).iat x (List.mem_of_getElem? hx))
      have hlen : x.cells.length = 36 := MIn.len HIA.out.ok
      have HAT := Lib.hid (show x.cells[32]? = _ ∧ x.cells[33]? = _ ∧ x.cells[34]? = _ ∧ x.cells[35]? = _ from inC_at (out := x.p.out) (sc := x.p.sc) (seq := x.p.seq) (W := .slice x.wa x.p.wit.length x.wc) HIA.out.ok.id)
      have HXC := Lib.hid (show ∃ C, C = x.cells from ⟨_, rfl⟩)
      have hone : ∀ u ∈ x.cells, u.oneCell' = true := inC_one
      obtain ⟨C, hC⟩ := HXC.out
      rw [← hC] at HAT hone hlen cx
      have HC := Lib.hid hC
      have HTH := Lib.hid (cp_there wr C hlen)
      obtain ⟨W5, e5, kb, b5, s5⟩ := cp_pack wr C hlen
      have KB := Lib.hid kb
      have HB5 := Lib.hid (HW.out.trans (b5.mono (by first | exact HW.out.size | exact HBW.out)))
      have HB15 := Lib.hid b5
      have HS5 := Lib.hid s5
      have HCX := Lib.hid cx
      have HS1 := Lib.hid (show (Try.prog.info? 58).map (·.size) = some C.length by rw [hlen]; exact Try.sizeIn)
      have HS2 := Lib.hid (show (Try.prog.info? 58).map (·.size) = some C.toArray.size by rw [List.size_toArray, hlen]; exact Try.sizeIn)
      have HONE := Lib.hid (all_oneCell_toArray hone)
      have HE5 := Lib.hid e5
      clear hone hlen cx kb b5 s5 e5 hC HXC
      go_upto_region 4 with (first
        | (refine wpList_load_mid rfl 58 (.tmp 14) rfl g (off + i * 36) rfl C _ HCX.out Try.underlying58 rfl HS1.out ?_)
        | (refine wpList_of_wp rfl fun K hK => wp_alloc_arr 58 rfl ZIN.toArray Try.zeroIn (hK _ _ ?_))
        | (refine wpList_store_mid rfl 58 (.tmp 6) (.tmp 15) rfl wr.heap.size 0 C.toArray rfl rfl HTH.out HS2.out HONE.out ?_))
      rw [← HE5.out]
      have c35 := KB.out.cell 35 _ HAT.out.2.2.2
      have hwl : (x.p.wit.length : Int) ≤ 9223372036854775807 := by have h1 := HIA.out.wl; have h2 := HIA.out.wc; omega
      have HWIT := Lib.hid (HT.out.iat x (List.mem_of_getElem? hx)).wit
      have HWOK := Lib.hid HIA.out.ok.wit
      have HWB : Hid (witB x.p = M.compB x.p.wit.length ++ x.p.wit.flatMap txt) := Lib.hid rfl
      generalize x.p.wit = wit at *
      generalize witB x.p = WB at *
      obtain ⟨k, hk2⟩ : ∃ k, k = wit.length := ⟨_, rfl⟩
      rw [← hk2] at hwl c35 HWIT HWB
      have HKK := Lib.hid hk2
      generalize x.wa = Aw at *
      have HL5 := Lib.hid (HL.out.more HB15.out)
      have hne : u1.ownBlock ≠ some wr.heap.size := fun e => by have := (HL.out.buf.lt _ e).2; omega
      have hyl : Hid (ys.length + WB.length ≤ 100000000) := Lib.hid (by
        have a := HY.out; have b := HX1.out; have c := HX2.out; have d := HBD.out
        rw [b, List.length_append] at c
        rw [a, List.length_append]
        omega)
      have HPC := Lib.hid (putCount_any k (by omega) W5 base HL5.out.buf (by have := hyl.out; omega) (Nat.le_trans HBASE.out HL5.out.size))
      have HNE := Lib.hid hne
      clear hx hk2 hne
      go_upto_region 5 with (go_at_call 32; refine HPC.out.mono ?_; rintro e w6 ⟨v6, rfl, hl6⟩; have HL6 := Lib.hid hl6; clear hl6)
      have k6 := HL6.out.kept KB.out HNE.out
      have c35b := k6.cell 35 _ HAT.out.2.2.2
      rw [← HKK.out] at c35b
      have HL7 := Lib.hid (HL5.out.step HL6.out rfl)
      clear c35 k6
      go_upto_region 6 with fail
      clear c35b
      go_loopg [1, 8, 24] k (fun ky t1 t8 t24 wy => ∃ (j : Nat) (zs : List Nat), j ≤ k ∧ t24 = .int .i64 j ∧ k - j ≤ ky ∧ Hid (LaidB w base v wy t1 zs) ∧ Hid (zs = (ys ++ M.compB k) ++ (wit.take j).flatMap txt))
      case atStart => exact ⟨0, ys ++ M.compB k, Nat.zero_le _, rfl, Nat.le_refl _, HL7, Lib.hid (by simp)⟩
      case round =>
        obtain ⟨j, zs, hj, rfl, hkj, HZ, HZE⟩ := hrel
        by_cases hlj : j < k
        · obtain ⟨p, hp⟩ : ∃ p, wit[j]? = some p := ⟨_, List.getElem?_eq_getElem (by have := HKK.out; omega)⟩
          have hbz : Below base w wr := Laid.below HZ.out HBF.out HBASE.out
          have hbwy : base ≤ wr.heap.size := Nat.le_trans HBASE.out HZ.out.size
          obtain ⟨ga, oa2, rfl, hga, cp⟩ := strs_at (HWIT.out.below hbz) j p hp
          have hpo := fml_one (f := txt) hp
          have hple := fml_le txt wit (j + 1)
          have hZB : zs.length + (txt p).length ≤ 100000000 := by
            have a := HZE.out; have b := HWB.out; have c := hyl.out
            rw [hpo, List.length_append] at hple
            rw [b, List.length_append] at c
            rw [a, List.length_append, List.length_append]
            omega
          have hpl : p.length ≤ (txt p).length := by unfold txt; rw [List.length_append]; omega
          have HPT := Lib.hid (putText_any p (HWOK.out p (List.mem_of_getElem? hp)).1 (by omega) wr base HZ.out.buf (by omega) hbwy)
          have HZ2 : Hid (zs ++ txt p = (ys ++ M.compB k) ++ (wit.take (j + 1)).flatMap txt) := Lib.hid (by rw [hpo, HZE.out, List.append_assoc])
          clear hp hpo hple hZB hpl hbz hbwy
          go_wp2_with fail
          refine HPT.out.mono ?_
          rintro e w8 ⟨v8, rfl, hl8⟩
          have HL8 := Lib.hid (HZ.out.step hl8 rfl)
          clear hl8
          go_wp2
          go_roundg (k - (j + 1))
          case measure => omega
          case rel => exact ⟨j + 1, zs ++ txt p, by omega, by go_num, Nat.le_refl _, HL8, HZ2⟩
        · have HZ3 : Hid (zs = xs ++ fm witB (ins.take (i + 1))) := Lib.hid (by
            have e : wit.take j = wit := List.take_of_length_le (by have := HKK.out; omega)
            rw [HZE.out, e, HX1.out, HWB.out, HY.out]
            simp only [List.append_assoc])
          go_wp2
          go_roundg (n - (i + 1))
          case measure => omega
          case rel => exact ⟨i + 1, zs, by omega, by go_num, Nat.le_refl _, HZ, HZ3⟩
    · have hin : i = n := by omega
      have HYE : Hid (ys = xs ++ fm witB ins) := Lib.hid (by
        rw [HY.out, List.take_of_length_le (by have := HN.out; omega)])
      go_wp2
      go_ret
      exact ⟨_, rfl, by rw [← HYE.out]; exact HL.out⟩
end Go.Proofs.Ytkdkihacpjhgmaa
