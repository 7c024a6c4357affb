/- Walks: (tx.In).check, (tx.Tx).hasWitness. -/
import Derived.Test.YtkdkihacpjhgmaaX1
namespace Go.Proofs.Ytkdkihacpjhgmaa
set_option linter.unusedSimpArgs false
set_option linter.unusedVariables false
open Go.RowKit

theorem strs_at {w : World} {B : Nat} {A : Option Addr} {n : Nat} {l : List (List Nat)} (h : Rd w B A n (strs l)) (i : Nat) (p : List Nat) (hp : l[i]? = some p) :
    ∃ g off, A = some ⟨g, off, none⟩ ∧ g < B ∧ w.cell? ⟨g, off + i, none⟩ = some (.string (strB p)) := by
  have hi : i < l.length := (List.getElem?_eq_some_iff.1 hp).1
  have hl := h.1
  simp only [strs, List.length_map] at hl
  obtain ⟨g, off, e, hg, hc⟩ := h.2 (by omega)
  exact ⟨g, off, e, hg, hc i _ (by simp [strs, hp])⟩

set_option maxHeartbeats 2000000 in
set_option maxRecDepth 100000 in
theorem inCheck_any (w : World) (B : Nat) (x : MIn) (h : InAt w B x) (hB : B ≤ w.heap.size) :
    Calls Try.prog 25 #[.agg x.cells.toArray] w fun e w' => e = .returned (.int .i64 (chkI x.p : Int)) ∧ Below w.heap.size w w' := by
  obtain ⟨⟨id, out, sc, seq, wit⟩, A, c⟩ := x
  have hat := inC_at (out := out) (sc := sc) (seq := seq) (W := .slice A wit.length c) h.ok.id
  have hsc := h.ok.scl
  have hwl : (wit.length : Int) ≤ 9223372036854775807 := by have h1 := h.wl; have h2 := h.wc; simp only at h1 h2; omega
  have HWT := Lib.hid (fun p hp => (h.ok.wit p hp).2)
  have hw := h.wit
  simp only at hsc hw HWT
  have HRES : Hid (chkI ⟨id, out, sc, seq, wit⟩ = if 100 < wit.length then 3 else if 10000 < sc.length then 6 else if wit.any (fun p => decide (10000 < p.length)) then 6 else 0) := Lib.hid rfl
  show Calls Try.prog 25 #[.agg (inC id out sc seq (.slice A wit.length c)).toArray] w _
  generalize chkI ⟨id, out, sc, seq, wit⟩ = R at *
  generalize inC id out sc seq (.slice A wit.length c) = C at *
  obtain ⟨n, hn⟩ : ∃ n, n = wit.length := ⟨_, rfl⟩
  rw [← hn] at hat hwl hw HRES
  have HN := Lib.hid hn
  obtain ⟨W3, e3⟩ : ∃ W3, W3 = w.alloc (.cells C.toArray 58) := ⟨_, rfl⟩
  have hB3 : Below w.heap.size w W3 := by rw [e3]; exact (Below.refl _ _).alloc (Nat.le_refl _) _
  have k0 : Blk W3 w.heap.size 58 C.toArray := by rw [e3]; exact Blk.new _ _ _
  have c33 := k0.cell 33 _ hat.2.1
  have c35 := k0.cell 35 _ hat.2.2.2
  have HW3 := Lib.hid ((hw.up hB).below hB3)
  have HB3 := Lib.hid hB3
  have hsz := strB_size sc
  have HE3 := Lib.hid e3
  clear hat hw hB3 k0 e3 h hn
  go_enter Try.func25, Try.ntmps25
  go_upto_region 1 with fail
  rw [← HE3.out]
  by_cases h1 : 100 < n
  · have h1' : (100 : Int) < (n : Int) := by omega
    rw [if_pos h1] at HRES
    clear h1
    go_wp2
    go_ret
    rw [HRES.out]
    exact ⟨rfl, HB3.out⟩
  · have h1' : ¬ (100 : Int) < (n : Int) := by omega
    rw [if_neg h1] at HRES
    clear h1
    by_cases h2 : 10000 < sc.length
    · have h2' : (10000 : Int) < (sc.length : Int) := by omega
      rw [if_pos h2] at HRES
      clear h2
      go_wp2
      go_ret
      rw [HRES.out]
      exact ⟨rfl, HB3.out⟩
    · have h2' : ¬ (10000 : Int) < (sc.length : Int) := by omega
      rw [if_neg h2] at HRES
      clear h2
      go_wp2
      go_loopg [4, 16] n (fun kx s4 s16 wr => ∃ i : Nat, i ≤ n ∧ s16 = .int .i64 i ∧ n - i ≤ kx ∧ wr = W3 ∧ Hid ((wit.take i).any (fun p => decide (10000 < p.length)) = false))
      case atStart => exact ⟨0, Nat.zero_le _, rfl, Nat.le_refl _, rfl, Lib.hid rfl⟩
      case round =>
        obtain ⟨i, hi, rfl, hk, rfl, HI⟩ := hrel
        by_cases hlt : i < n
        · obtain ⟨p, hp⟩ : ∃ p, wit[i]? = some p := ⟨_, List.getElem?_eq_getElem (by have := HN.out; omega)⟩
          have HP := Lib.hid hp
          have hpl := HWT.out p (List.mem_of_getElem? hp)
          obtain ⟨g, off, rfl, hg, cp⟩ := strs_at HW3.out i p hp
          have hps := strB_size p
          clear hp
          by_cases h3 : 10000 < p.length
          · have h3' : (10000 : Int) < (p.length : Int) := by omega
            have HT : Hid (R = 6) := Lib.hid (by
              rw [HRES.out, if_pos (List.any_eq_true.2 ⟨p, List.mem_of_getElem? HP.out, by simpa using h3⟩)])
            clear h3
            go_wp2
            go_ret
            rw [HT.out]
            exact ⟨rfl, HB3.out⟩
          · have h3' : ¬ (10000 : Int) < (p.length : Int) := by omega
            have HI2 : Hid ((wit.take (i + 1)).any (fun p => decide (10000 < p.length)) = false) := Lib.hid (by
              obtain ⟨hil, rfl⟩ := List.getElem?_eq_some_iff.1 HP.out
              rw [List.take_succ_eq_append_getElem hil, List.any_append, HI.out]
              simp
              omega)
            clear h3
            go_wp2
            go_roundg (n - (i + 1))
            case measure => omega
            case rel => exact ⟨i + 1, by omega, by go_num, Nat.le_refl _, rfl, HI2⟩
        · go_wp2
          go_ret
          refine ⟨?_, HB3.out⟩
          have e : wit.take i = wit := List.take_of_length_le (by have := HN.out; omega)
          rw [HRES.out, ← e, HI.out]
          rfl

set_option maxHeartbeats 2000000 in
set_option maxRecDepth 100000 in
theorem hasW_any (w : World) (B : Nat) (t : MTx) (h : TxAt w B t) (hB : B ≤ w.heap.size) :
    Calls Try.prog 22 #[t.val] w fun e w' => e = .returned (.bool (hasW t.p)) ∧ Below w.heap.size w w' := by
  obtain ⟨ver, ins, ia, ic, outs, oa, oc, lock⟩ := t
  have HRES : Hid (hasW (MTx.p ⟨ver, ins, ia, ic, outs, oa, oc, lock⟩) = ins.any (fun x => decide (0 < x.p.wit.length))) := Lib.hid (by
    unfold hasW MTx.p
    rw [List.any_map]
    rfl)
  generalize hasW (MTx.p ⟨ver, ins, ia, ic, outs, oa, oc, lock⟩) = R at *
  have hil : (ins.length : Int) ≤ 9223372036854775807 := by have h1 := h.il; have h2 := h.ic; simp only at h1 h2; omega
  have HT := Lib.hid (h.up hB)
  show Calls Try.prog 22 #[.agg #[.int .i32 ver, .slice ia ins.length ic, .slice oa outs.length oc, .int .u32 (lock : Int)]] w _
  obtain ⟨n, hn⟩ : ∃ n, n = ins.length := ⟨_, rfl⟩
  obtain ⟨m, hm⟩ : ∃ m, m = outs.length := ⟨_, rfl⟩
  rw [← hn] at hil ⊢
  rw [← hm]
  have HN := Lib.hid hn
  obtain ⟨W3, e3⟩ : ∃ W3, W3 = w.alloc (.cells #[.int .i32 ver, .slice ia n ic, .slice oa m oc, .int .u32 (lock : Int)] 26) := ⟨_, rfl⟩
  have hB3 : Below w.heap.size w W3 := by rw [e3]; exact (Below.refl _ _).alloc (Nat.le_refl _) _
  have k0 : Bx4 W3 w.heap.size (.int .i32 ver) (.slice ia n ic) (.slice oa m oc) (.int .u32 (lock : Int)) := by rw [e3]; exact Bx4.new _ _ _ _ _ _
  have c1 := k0.c1
  have HB3 := Lib.hid hB3
  have HE3 := Lib.hid e3
  have HSZ := Lib.hid Try.sizeIn
  clear hB3 k0 e3 h hn hm
  go_enter Try.func22, Try.ntmps22
  go_upto_region 1 with fail
  rw [← HE3.out]
  go_wp2_with fail
  clear c1
  go_loopg [4, 8] n (fun kx s4 s8 wr => ∃ i : Nat, i ≤ n ∧ s8 = .int .i64 i ∧ n - i ≤ kx ∧ Hid (Below w.heap.size w wr) ∧ Hid ((ins.take i).any (fun x => decide (0 < x.p.wit.length)) = false))
  case atStart => exact ⟨0, Nat.zero_le _, rfl, Nat.le_refl _, HB3, Lib.hid rfl⟩
  case round =>
    obtain ⟨i, hi, rfl, hk, HW, HI⟩ := hrel
    by_cases hlt : i < n
    · obtain ⟨x, hx⟩ : ∃ x, ins[i]? = some x := ⟨_, List.getElem?_eq_getElem (by have := HN.out; omega)⟩
      have HX := Lib.hid hx
      obtain ⟨g, off, rfl, hg, cx⟩ := (HT.out.below HW.out).inp i x hx
      have HIA := Lib.hid ((HT.out.below HW.out).iat x (List.mem_of_getElem? hx))
      have hlen : x.cells.length = 36 := MIn.len HIA.out.ok
      have HAT := Lib.hid (show x.cells[32]? = _ ∧ x.cells[33]? = _ ∧ x.cells[34]? = _ ∧ x.cells[35]? = _ from inC_at (out := x.p.out) (sc := x.p.sc) (seq := x.p.seq) (W := .slice x.wa x.p.wit.length x.wc) HIA.out.ok.id)
      have HXC := Lib.hid (show ∃ C, C = x.cells from ⟨_, rfl⟩)
      have hone : ∀ u ∈ x.cells, u.oneCell' = true := inC_one
      obtain ⟨C, hC⟩ := HXC.out
      rw [← hC] at HAT hone hlen cx
      have HC := Lib.hid hC
      have HTH := Lib.hid (cp_there wr C hlen)
      obtain ⟨W5, e5, kb, b5, s5⟩ := cp_pack wr C hlen
      have KB := Lib.hid kb
      have HB5 := Lib.hid (HW.out.trans (b5.mono (by first | exact HW.out.size | exact HBW.out)))
      have HB15 := Lib.hid b5
      have HS5 := Lib.hid s5
      have HCX := Lib.hid cx
      have HS1 := Lib.hid (show (Try.prog.info? 58).map (·.size) = some C.length by rw [hlen]; exact Try.sizeIn)
      have HS2 := Lib.hid (show (Try.prog.info? 58).map (·.size) = some C.toArray.size by rw [List.size_toArray, hlen]; exact Try.sizeIn)
      have HONE := Lib.hid (all_oneCell_toArray hone)
      have HE5 := Lib.hid e5
      clear hone hlen cx kb b5 s5 e5 hC HXC
      go_upto_region 4 with (first
        | (refine wpList_load_mid rfl 58 (.tmp 10) rfl g (off + i * 36) rfl C _ HCX.out Try.underlying58 rfl HS1.out ?_)
        | (refine wpList_of_wp rfl fun K hK => wp_alloc_arr 58 rfl ZIN.toArray Try.zeroIn (hK _ _ ?_))
        | (refine wpList_store_mid rfl 58 (.tmp 4) (.tmp 11) rfl wr.heap.size 0 C.toArray rfl rfl HTH.out HS2.out HONE.out ?_))
      rw [← HE5.out]
      have c35 := KB.out.cell 35 _ HAT.out.2.2.2
      have hwl : (x.p.wit.length : Int) ≤ 9223372036854775807 := by have h1 := HIA.out.wl; have h2 := HIA.out.wc; omega
      clear hx
      by_cases h3 : 0 < x.p.wit.length
      · have h3' : (0 : Int) < (x.p.wit.length : Int) := by omega
        have HTR : Hid (R = true) := Lib.hid (by
          rw [HRES.out]
          exact List.any_eq_true.2 ⟨x, List.mem_of_getElem? HX.out, by simpa using h3⟩)
        generalize x.p.wit.length = wl at *
        clear h3
        go_wp2
        go_ret
        rw [HTR.out]
        exact ⟨rfl, HB5.out⟩
      · have h3' : x.p.wit.length = 0 := by omega
        have HI2 : Hid ((ins.take (i + 1)).any (fun x => decide (0 < x.p.wit.length)) = false) := Lib.hid (by
          obtain ⟨hil, rfl⟩ := List.getElem?_eq_some_iff.1 HX.out
          rw [List.take_succ_eq_append_getElem hil, List.any_append, HI.out]
          simp
          simpa using h3')
        rw [h3'] at c35
        clear h3 h3' hwl
        go_wp2
        go_roundg (n - (i + 1))
        case measure => omega
        case rel => exact ⟨i + 1, by omega, by go_num, Nat.le_refl _, HB5, HI2⟩
    · go_wp2
      go_ret
      refine ⟨?_, HW.out⟩
      have e : ins.take i = ins := List.take_of_length_le (by have := HN.out; omega)
      rw [HRES.out, ← e, HI.out]
      rfl
end Go.Proofs.Ytkdkihacpjhgmaa
