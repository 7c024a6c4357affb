/- The law's big: it tells something. -/
import Derived.Test.YtkdkihacpjhgmaaXH
namespace Go.Proofs.Ytkdkihacpjhgmaa
set_option linter.unusedSimpArgs false
set_option linter.unusedVariables false
open Go.RowKit

def SomeB (e : Ending) : Prop := ∃ b, e = .returned (.bool b)
set_option maxHeartbeats 4000000 in
set_option maxRecDepth 100000 in
theorem big_some (w : World) (B : Nat) (t : MTx) (h : TxAt w B t) (hB : B ≤ w.heap.size) :
    Calls Try.prog 9 #[t.val] w fun e w' => SomeB e ∧ Below w.heap.size w w' := by
  obtain ⟨ver, ins, ia, ic, outs, oa, oc, lock⟩ := t
  have hil : (ins.length : Int) ≤ 9223372036854775807 := by have h1 := h.il; have h2 := h.ic; simp only at h1 h2; omega
  have hol : (outs.length : Int) ≤ 9223372036854775807 := by have h1 := h.ol; have h2 := h.oc; simp only at h1 h2; omega
  have HT := Lib.hid (h.up hB)
  show Calls Try.prog 9 #[.agg #[.int .i32 ver, .slice ia ins.length ic, .slice oa outs.length oc, .int .u32 (lock : Int)]] w _
  obtain ⟨n, hn⟩ : ∃ n, n = ins.length := ⟨_, rfl⟩
  obtain ⟨m, hm⟩ : ∃ m, m = outs.length := ⟨_, rfl⟩
  rw [← hn] at hil ⊢
  rw [← hm] at hol ⊢
  have HN := Lib.hid hn
  have HM := Lib.hid hm
  obtain ⟨W3, e3⟩ : ∃ W3, W3 = w.alloc (.cells #[.int .i32 ver, .slice ia n ic, .slice oa m oc, .int .u32 (lock : Int)] 26) := ⟨_, rfl⟩
  have hB3 : Below w.heap.size w W3 := by rw [e3]; exact (Below.refl _ _).alloc (Nat.le_refl _) _
  have k0 : Bx4 W3 w.heap.size (.int .i32 ver) (.slice ia n ic) (.slice oa m oc) (.int .u32 (lock : Int)) := by rw [e3]; exact Bx4.new _ _ _ _ _ _
  have s3 : W3.heap.size = w.heap.size + 1 := by rw [e3]; simp
  have c1 := k0.c1
  have c2 := k0.c2
  have HK0 := Lib.hid k0
  have HB3 := Lib.hid hB3
  have HE3 := Lib.hid e3
  have HS3 := Lib.hid s3
  clear hB3 k0 e3 h hn hm s3
  by_cases h1 : 1030 < n
  · have h1' : (1030 : Int) < (n : Int) := by omega
    clear h1
    go_enter Try.func9, Try.ntmps9
    go_upto_region 1 with fail
    rw [← HE3.out]
    go_wp2
    go_ret
    exact ⟨⟨true, rfl⟩, HB3.out⟩
  · have h1' : ¬ (1030 : Int) < (n : Int) := by omega
    have h1d : decide ((1030 : Int) < (n : Int)) = false := by simp; omega
    clear h1
    by_cases h2 : 1030 < m
    · have h2' : (1030 : Int) < (m : Int) := by omega
      clear h2
      go_enter Try.func9, Try.ntmps9
      go_upto_region 1 with fail
      rw [← HE3.out]
      go_wp2
      go_ret
      exact ⟨⟨true, rfl⟩, HB3.out⟩
    · have h2' : ¬ (1030 : Int) < (m : Int) := by omega
      clear h2
      go_enter Try.func9, Try.ntmps9
      go_upto_region 1 with fail
      rw [← HE3.out]
      go_upto_region 5 with fail
      clear c1 c2 h1' h2' h1d
      go_loopg [3, 5, 7, 23] n (fun kx s3 s5 s7 s23 wr => ∃ (i : Nat) (z : Int), i ≤ n ∧ s23 = .int .i64 i ∧ n - i ≤ kx ∧ s3 = .int .i64 z ∧ Hid (Below w.heap.size w wr) ∧ Hid (Below W3.heap.size W3 wr))
      case atStart => exact ⟨0, 0, Nat.zero_le _, rfl, Nat.le_refl _, rfl, HB3, Lib.hid (Below.refl _ _)⟩
      case round =>
        obtain ⟨i, z, hi, rfl, hk, rfl, HW, HV⟩ := hrel
        by_cases hlt : i < n
        · obtain ⟨x, hx⟩ : ∃ x, ins[i]? = some x := ⟨_, List.getElem?_eq_getElem (by have := HN.out; omega)⟩
          obtain ⟨g, off, rfl, hg, cx⟩ := (HT.out.below HW.out).inp i x hx
          have HIA := Lib.hid ((HT.out.below HW.out).iat x (List.mem_of_getElem? hx))
          have hlen : x.cells.length = 36 := MIn.len HIA.out.ok
          have HAT := Lib.hid (show x.cells[32]? = _ ∧ x.cells[33]? = _ ∧ x.cells[34]? = _ ∧ x.cells[35]? = _ from inC_at (out := x.p.out) (sc := x.p.sc) (seq := x.p.seq) (W := .slice x.wa x.p.wit.length x.wc) HIA.out.ok.id)
          have HXC := Lib.hid (show ∃ C, C = x.cells from ⟨_, rfl⟩)
          have hone : ∀ u ∈ x.cells, u.oneCell' = true := inC_one
          obtain ⟨C, hC⟩ := HXC.out
          rw [← hC] at HAT hone hlen cx
          have HC := Lib.hid hC
          have HTH := Lib.hid (cp_there wr C hlen)
          obtain ⟨W5, e5, kb, b5, s5⟩ := cp_pack wr C hlen
          have KB := Lib.hid kb
          have HB5 := Lib.hid (HW.out.trans (b5.mono (by first | exact HW.out.size | exact HBW.out)))
          have HB15 := Lib.hid b5
          have HS5 := Lib.hid s5
          have HCX := Lib.hid cx
          have HS1 := Lib.hid (show (Try.prog.info? 58).map (·.size) = some C.length by rw [hlen]; exact Try.sizeIn)
          have HS2 := Lib.hid (show (Try.prog.info? 58).map (·.size) = some C.toArray.size by rw [List.size_toArray, hlen]; exact Try.sizeIn)
          have HONE := Lib.hid (all_oneCell_toArray hone)
          have HE5 := Lib.hid e5
          clear hone hlen cx kb b5 s5 e5 hC HXC
          go_upto_region 7 with (first
            | (refine wpList_load_mid rfl 58 (.tmp 25) rfl g (off + i * 36) rfl C _ HCX.out Try.underlying58 rfl HS1.out ?_)
            | (refine wpList_of_wp rfl fun K hK => wp_alloc_arr 58 rfl ZIN.toArray Try.zeroIn (hK _ _ ?_))
            | (refine wpList_store_mid rfl 58 (.tmp 5) (.tmp 26) rfl wr.heap.size 0 C.toArray rfl rfl HTH.out HS2.out HONE.out ?_))
          rw [← HE5.out]
          have HV5 : Hid (Below W3.heap.size W3 W5) := Lib.hid (HV.out.trans (HB15.out.mono HV.out.size))
          have c33 := KB.out.cell 33 _ HAT.out.2.1
          have c35 := KB.out.cell 35 _ HAT.out.2.2.2
          have hwl : (x.p.wit.length : Int) ≤ 9223372036854775807 := by have h1 := HIA.out.wl; have h2 := HIA.out.wc; omega
          have HWT := Lib.hid (HIA.out.wit.below (HB15.out.mono HW.out.size))
          generalize x.p.wit = wit at *
          generalize x.p.sc = sc at *
          generalize x.wa = Aw at *
          obtain ⟨v, hv⟩ : ∃ v, v = wit.length := ⟨_, rfl⟩
          rw [← hv] at hwl c35 HWT
          have HVV := Lib.hid hv
          clear hx hv
          by_cases h3 : 110 < v
          · have h3' : (110 : Int) < (v : Int) := by omega
            clear h3
            go_wp2
            go_ret
            exact ⟨⟨true, rfl⟩, HB5.out⟩
          · have h3' : ¬ (110 : Int) < (v : Int) := by omega
            clear h3
            go_upto_region 11 with fail
            clear c33 c35
            obtain ⟨z1, hz1⟩ : ∃ z1, z1 = wrap64 (z + wrap64 (41 + ((strB sc).size : Int))) := ⟨_, rfl⟩
            rw [← hz1]
            clear hz1
            go_loopg [3, 7, 40] v (fun ky t3 t7 t40 wy => ∃ (j : Nat) (y : Int), j ≤ v ∧ t40 = .int .i64 j ∧ v - j ≤ ky ∧ t3 = .int .i64 y ∧ wy = W5)
            case atStart => exact ⟨0, z1, Nat.zero_le _, rfl, Nat.le_refl _, rfl, rfl⟩
            case round =>
              obtain ⟨j, y, hj, rfl, hkj, rfl, rfl⟩ := hrel
              by_cases hlj : j < v
              · obtain ⟨p, hp⟩ : ∃ p, wit[j]? = some p := ⟨_, List.getElem?_eq_getElem (by have := HVV.out; omega)⟩
                obtain ⟨ga, oa2, rfl, hga, cp⟩ := strs_at HWT.out j p hp
                clear hp
                go_upto_region 14 with fail
                obtain ⟨y1, hy1⟩ : ∃ y1, y1 = wrap64 (y + ((strB p).size : Int)) := ⟨_, rfl⟩
                rw [← hy1]
                clear hy1
                by_cases hy : 100000 < y1
                · go_wp2
                  go_ret
                  exact ⟨⟨true, rfl⟩, HB5.out⟩
                · go_wp2
                  go_roundg (v - (j + 1))
                  case measure => omega
                  case rel => exact ⟨j + 1, y1, by omega, by go_num, Nat.le_refl _, rfl, rfl⟩
              · go_wp2
                go_roundg (n - (i + 1))
                case measure => omega
                case rel => exact ⟨i + 1, y, by omega, by go_num, Nat.le_refl _, rfl, HB5, HV5⟩
        · have k1 := HK0.out.keep (HV.out.block _ (by have := HS3.out; omega))
          have c2 := k1.c2
          go_upto_region 19 with fail
          clear c2 k1
          go_loopg [3, 9, 55] m (fun kx s3 s9 s55 wr => ∃ (i : Nat) (y : Int), i ≤ m ∧ s55 = .int .i64 i ∧ m - i ≤ kx ∧ s3 = .int .i64 y ∧ Hid (Below w.heap.size w wr))
          case atStart => exact ⟨0, z, Nat.zero_le _, rfl, Nat.le_refl _, rfl, HW⟩
          case round =>
            obtain ⟨j, y, hj, rfl, hkj, rfl, HY⟩ := hrel
            by_cases hlj : j < m
            · obtain ⟨p, hp⟩ : ∃ p, outs[j]? = some p := ⟨_, List.getElem?_eq_getElem (by have := HM.out; omega)⟩
              obtain ⟨ga, oa2, rfl, hga, ca, cb⟩ := (HT.out.below HY.out).outp j p hp
              have HB6 : Hid (Below w.heap.size w (wr.alloc (.cells #[.int .i64 p.coins, .string (strB p.sc)] 49))) := Lib.hid (HY.out.alloc HY.out.size _)
              clear hp
              go_upto_region 22 with fail
              obtain ⟨y1, hy1⟩ : ∃ y1, y1 = wrap64 (y + wrap64 (9 + ((strB p.sc).size : Int))) := ⟨_, rfl⟩
              rw [← hy1]
              clear hy1
              by_cases hy : 100000 < y1
              · go_wp2
                go_ret
                exact ⟨⟨true, rfl⟩, HB6.out⟩
              · go_wp2
                go_roundg (m - (j + 1))
                case measure => omega
                case rel => exact ⟨j + 1, y1, by omega, by go_num, Nat.le_refl _, rfl, HB6⟩
            · go_wp2
              go_ret
              exact ⟨⟨false, rfl⟩, HY.out⟩
end Go.Proofs.Ytkdkihacpjhgmaa
