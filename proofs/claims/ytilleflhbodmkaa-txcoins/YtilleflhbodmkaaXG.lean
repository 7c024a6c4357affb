/- The walk of the law on coins. -/
import Derived.Test.YtilleflhbodmkaaXF
namespace Go.Proofs.Ytilleflhbodmkaa
set_option linter.unusedSimpArgs false
set_option linter.unusedVariables false
open Go.RowKit

theorem wpList_of_wp_g {P : Program} {ops : Array Oper} {rest : List Oper} {op : Oper} {a : Act} {w : World} {Q : Exit → Act → World → Prop} (hw : Region.wanted op (yielded ops a.tmps) = true)
    (h : ∀ K : Act → World → Prop, (∀ a w, wpList P ops Q rest a w → K a w) → op.wp P a w K Q) : wpList P ops Q (op :: rest) a w :=
  wpList_step fun K hK => by rw [if_pos hw]; exact h K hK
theorem size_5 : (Try.prog.info? 5).map (·.size) = some 1 := by kernel_rfl
theorem gu_hash : Try.prog.eqGuardType Try.prog.depth 53 = false := by kernel_rfl

set_option maxHeartbeats 20000000 in
set_option maxRecDepth 100000 in
theorem coins_walk (t : MTx) (w : World) (h : TxAt w w.heap.size t) :
    Calls Try.prog 5 #[t.val] w fun e w' => e = .returned (.bool true) ∧ Below w.heap.size w w' := by
  have HCO := Lib.hid (fun wx (hx : Below w.heap.size w wx) => coins_any wx w.heap.size t (h.below hx) hx.size)
  have HFI := Lib.hid (fun wx (hx : Below w.heap.size w wx) => first_any wx w.heap.size t (h.below hx) hx.size)
  have HNO := Lib.hid (fun wx => nowhere_any wx)
  obtain ⟨ver, ins, ia, ic, outs, oa, oc, lock⟩ := t
  have hil : (ins.length : Int) ≤ 9223372036854775807 := by have h1 := h.il; have h2 := h.ic; simp only at h1 h2; omega
  have hol : (outs.length : Int) ≤ 9223372036854775807 := by have h1 := h.ol; have h2 := h.oc; simp only at h1 h2; omega
  have HT := Lib.hid h
  have hval : MTx.val ⟨ver, ins, ia, ic, outs, oa, oc, lock⟩ = .agg #[.int .i32 ver, .slice ia ins.length ic, .slice oa outs.length oc, .int .u32 (lock : Int)] := rfl
  rw [hval] at HCO HFI ⊢
  simp only at HCO HFI
  obtain ⟨n, hn⟩ : ∃ n, n = ins.length := ⟨_, rfl⟩
  obtain ⟨m, hm⟩ : ∃ m, m = outs.length := ⟨_, rfl⟩
  rw [← hn] at hil HCO HFI ⊢
  rw [← hm] at hol HCO HFI ⊢
  have HN := Lib.hid hn
  have HM := Lib.hid hm
  obtain ⟨W3, e3⟩ : ∃ W3, W3 = w.alloc (.cells #[.int .i32 ver, .slice ia n ic, .slice oa m oc, .int .u32 (lock : Int)] 26) := ⟨_, rfl⟩
  have hB3 : Below w.heap.size w W3 := by rw [e3]; exact (Below.refl _ _).alloc (Nat.le_refl _) _
  have k0 : Bx4 W3 w.heap.size (.int .i32 ver) (.slice ia n ic) (.slice oa m oc) (.int .u32 (lock : Int)) := by rw [e3]; exact Bx4.new _ _ _ _ _ _
  have s3 : W3.heap.size = w.heap.size + 1 := by rw [e3]; simp
  have HK0 : Hid (∀ wx, Below W3.heap.size W3 wx → Bx4 wx w.heap.size (.int .i32 ver) (.slice ia n ic) (.slice oa m oc) (.int .u32 (lock : Int)) ∧ Below w.heap.size w wx) := Lib.hid (fun wx hx => ⟨k0.keep (hx.block _ k0.lt), hB3.trans (hx.mono hB3.size)⟩)
  have HB3 := Lib.hid hB3
  have HE3 := Lib.hid e3
  have HHD := Lib.hid (head_any W3)
  clear hB3 k0 e3 h hn hm s3 hval
  go_enter Try.func5, Try.ntmps5
  go_upto_region 1 with fail
  rw [← HE3.out]
  go_wp2_with fail
  refine HHD.out.mono ?_
  rintro e w4 ⟨rfl, b4⟩
  have HB4 := Lib.hid b4
  have c1 := (HK0.out _ b4).1.c1
  have c2 := (HK0.out _ b4).1.c2
  clear b4
  by_cases h1 : 1200 < m
  · have h1' : (1200 : Int) < (m : Int) := by omega
    clear h1
    go_wp2
    go_ret
    exact ⟨rfl, (HK0.out _ HB4.out).2⟩
  · have h1' : ¬ (1200 : Int) < (m : Int) := by omega
    have h1d : decide ((1200 : Int) < (m : Int)) = false := by simp; omega
    clear h1
    by_cases h2 : 1200 < n
    · have h2' : (1200 : Int) < (n : Int) := by omega
      clear h2
      go_wp2
      go_ret
      exact ⟨rfl, (HK0.out _ HB4.out).2⟩
    · have h2' : ¬ (1200 : Int) < (n : Int) := by omega
      clear h2
      go_upto_region 8 with fail
      clear c1 c2 h1' h1d h2'
      go_loopg [3, 4, 6, 25] m (fun kx s3 s4 s6 s25 wr => ∃ (i : Nat) (z : Int) (b : Bool), i ≤ m ∧ s25 = .int .i64 i ∧ m - i ≤ kx ∧ s3 = .int .i64 z ∧ s4 = .bool b ∧ 0 ≤ z ∧ z ≤ 2100000000000000 ∧ Hid (coinsM (outs.take i) 0 = if b then some (2100000000000000 - z) else none) ∧ Hid (Below W3.heap.size W3 wr))
      case atStart => exact ⟨0, 2100000000000000, true, Nat.zero_le _, rfl, Nat.le_refl _, rfl, rfl, by omega, by omega, Lib.hid rfl, HB4⟩
      case round =>
        obtain ⟨j, z, b, hj, rfl, hkj, rfl, rfl, hz0, hz1, HZ, HY⟩ := hrel
        by_cases hlj : j < m
        · obtain ⟨p, hp⟩ : ∃ p, outs[j]? = some p := ⟨_, List.getElem?_eq_getElem (by have := HM.out; omega)⟩
          have hW := (HK0.out _ HY.out).2
          obtain ⟨ga, oa2, rfl, hga, ca, cb⟩ := (HT.out.below hW).outp j p hp
          have HB6 : Hid (Below W3.heap.size W3 (wr.alloc (.cells #[.int .i64 p.coins, .string (strB p.sc)] 49))) := Lib.hid (HY.out.alloc HY.out.size _)
          have hpc := (HT.out.ook p (List.mem_of_getElem? hp))
          have p0 := hpc.c0
          have p1 := hpc.c1
          have HSP : Hid (coinsM (outs.take (j + 1)) 0 = (coinsM (outs.take j) 0).bind (coinsM [p])) := Lib.hid (by rw [take_one hp, coinsM_app])
          clear hp hpc hW
          cases b with
          | false =>
            have HNX : Hid (coinsM (outs.take (j + 1)) 0 = if false then some (2100000000000000 - z) else none) := Lib.hid (by rw [HSP.out, HZ.out]; rfl)
            go_wp2
            go_roundg (m - (j + 1))
            case measure => omega
            case rel => exact ⟨j + 1, z, false, by omega, by go_num, Nat.le_refl _, rfl, rfl, hz0, hz1, HNX, HB6⟩
          | true =>
            by_cases hbad : p.coins < 0 ∨ z < p.coins
            · have HNX : Hid (coinsM (outs.take (j + 1)) 0 = if false then some (2100000000000000 - z) else none) := Lib.hid (by
                rw [HSP.out, HZ.out]
                simp only [if_true, Option.bind_some, coinsM]
                rw [if_pos (by omega)]
                rfl)
              by_cases b1 : p.coins < 0
              · clear hbad
                go_wp2
                go_roundg (m - (j + 1))
                case measure => omega
                case rel => exact ⟨j + 1, z, false, by omega, by go_num, Nat.le_refl _, rfl, rfl, hz0, hz1, HNX, HB6⟩
              · have b2 : z < p.coins := by omega
                have b1' : 0 ≤ p.coins := by omega
                clear hbad
                go_wp2
                go_roundg (m - (j + 1))
                case measure => omega
                case rel => exact ⟨j + 1, z, false, by omega, by go_num, Nat.le_refl _, rfl, rfl, hz0, hz1, HNX, HB6⟩
            · have HNX : Hid (coinsM (outs.take (j + 1)) 0 = if true then some (2100000000000000 - (z - p.coins)) else none) := Lib.hid (by
                rw [HSP.out, HZ.out]
                simp only [if_true, Option.bind_some, coinsM]
                rw [if_neg (by omega)]
                congr 1
                omega)
              have b1 : ¬ p.coins < 0 := by omega
              have b1' : 0 ≤ p.coins := by omega
              have b2 : ¬ z < p.coins := by omega
              have b2' : p.coins ≤ z := by omega
              clear hbad
              go_wp2
              go_roundg (m - (j + 1))
              case measure => omega
              case rel => exact ⟨j + 1, z - p.coins, true, by omega, by go_num, Nat.le_refl _, rfl, rfl, by omega, by omega, HNX, HB6⟩
        · have HCM : Hid (coinsM outs 0 = if b then some (2100000000000000 - z) else none) := Lib.hid (by rw [← HZ.out, List.take_of_length_le (by have := HM.out; omega)])
          have k := (HK0.out _ HY.out).1
          have d0 := k.c0
          have d1 := k.c1
          have d2 := k.c2
          have d3 := k.c3
          have HCX := Lib.hid (HCO.out _ (HK0.out _ HY.out).2)
          obtain ⟨V, hV⟩ : ∃ V : Int, V = (if b then some (2100000000000000 - z) else none : Option Int).getD 0 := ⟨_, rfl⟩
          have hs : (if b then some (2100000000000000 - z) else none : Option Int).isSome = b := by cases b <;> rfl
          rw [HCM.out, hs, ← hV] at HCX
          have hpe0 : ∀ wx, (Op.equalIn 10000 55 (.agg NWP.toArray) (.agg NWP.toArray)).run Try.prog wx = .ok true wx := fun wx => by
            have := pt_eql z32 z32 4294967295 4294967295 rfl rfl wx
            simpa [NWP] using this
          have hpe1 : ∀ wx, (Op.equalIn 10000 55 (.agg NWP.toArray) (.agg #[.int .u8 0, .int .u8 0, .int .u8 0, .int .u8 0, .int .u8 0, .int .u8 0, .int .u8 0, .int .u8 0, .int .u8 0, .int .u8 0, .int .u8 0, .int .u8 0, .int .u8 0, .int .u8 0, .int .u8 0, .int .u8 0, .int .u8 0, .int .u8 0, .int .u8 0, .int .u8 0, .int .u8 0, .int .u8 0, .int .u8 0, .int .u8 0, .int .u8 0, .int .u8 0, .int .u8 0, .int .u8 0, .int .u8 0, .int .u8 0, .int .u8 0, .int .u8 0, .int .u32 4294967295])).run Try.prog wx = .ok true wx := hpe0
          obtain ⟨NW, hNWe⟩ : ∃ NW, NW = NWP := ⟨_, rfl⟩
          rw [← hNWe] at hpe1 HNO
          have HPE := Lib.hid hpe1
          have HNB := Lib.hid (show _ from hNWe)
          clear hNWe hpe0 hpe1
          have hcase : (b = false ∧ V = 0) ∨ (b = true ∧ V = 2100000000000000 - z) := by
            cases b with
            | false => exact .inl ⟨rfl, hV⟩
            | true => exact .inr ⟨rfl, hV⟩
          clear k hV hs
          go_wp2_with fail
          refine HCX.out.mono ?_
          rintro e w6 ⟨rfl, b6⟩
          have HB6 := Lib.hid (HY.out.trans (b6.mono HY.out.size))
          have k6 := (HK0.out _ HB6.out).1
          have f1 := k6.c1
          clear k6 b6 d0 d1 d2 d3 HCX
          by_cases hn1 : n = 1
          · obtain ⟨x, hx⟩ : ∃ x, ins = [x] := one_of (by have := HN.out; omega)
            subst hx
            subst hn1
            obtain ⟨g, off, hia, hg, hxr⟩ := (HT.out.below (HK0.out _ HB6.out).2).inp 0 x rfl
            simp only at hia
            subst hia
            have HOKX := Lib.hid (HT.out.iat x (by simp)).ok
            have HFX : Hid (∀ wx, Below w.heap.size w wx → Calls Try.prog 18 #[.agg #[.int .i32 ver, .slice (some ⟨g, off, none⟩) 1 ic, .slice oa m oc, .int .u32 (lock : Int)]] wx fun e w' => e = .returned (.bool (decide (x.p.id = z32) && decide (x.p.out = 4294967295))) ∧ Below wx.heap.size wx w') := Lib.hid (fun wx hx => HFI.out wx hx)
            have HRI : Hid (w6.rangeAt g off (bys x.p.id)) := Lib.hid (fun j u hu => by
              have := hxr j u (inC_id j u hu)
              simpa using this)
            have c32 := hxr 32 _ (inC_at HOKX.out.id).1
            rw [Nat.zero_mul, Nat.add_zero] at c32
            have HSH := Lib.hid (show (Try.prog.info? 53).map (·.size) = some (bys x.p.id).length by rw [bys_len, HOKX.out.id]; exact Try.sizeHash)
            obtain ⟨i5, hi5, _⟩ := info_parts Try.info5
            have hEQ : ∀ wx, (Op.equalIn 10000 53 (.agg (bys x.p.id).toArray) (.agg #[.int .u8 0, .int .u8 0, .int .u8 0, .int .u8 0, .int .u8 0, .int .u8 0, .int .u8 0, .int .u8 0, .int .u8 0, .int .u8 0, .int .u8 0, .int .u8 0, .int .u8 0, .int .u8 0, .int .u8 0, .int .u8 0, .int .u8 0, .int .u8 0, .int .u8 0, .int .u8 0, .int .u8 0, .int .u8 0, .int .u8 0, .int .u8 0, .int .u8 0, .int .u8 0, .int .u8 0, .int .u8 0, .int .u8 0, .int .u8 0, .int .u8 0, .int .u8 0])).run Try.prog wx = .ok (decide (x.p.id = z32)) wx := fun wx => run_eql_bys wx 53 5 32 .u8 i5 Try.underlying53 hi5 cells_5 Try.underlying5 x.p.id z32 HOKX.out.id rfl
            have hgh := gu_hash
            have ho := HOKX.out.out
            have hoi : (x.p.out : Int) ≤ 4294967295 := by omega
            generalize x.p.id = id at *
            generalize x.p.out = O at *
            clear hxr ho hi5
            by_cases hid : id = z32
            · rw [decide_eq_true hid] at hEQ HFX
              clear hid
              by_cases hO : O = 4294967295
              · subst hO
                rcases hcase with ⟨rfl, rfl⟩ | ⟨rfl, rfl⟩
                all_goals
                  go_upto_region 18 with (show wpList _ _ _ (Oper.mk (some 82) _ _ _ _ _ :: _) _ _; refine wpList_of_wp_g (by kernel_rfl) fun K hK => wp_load_mid 53 (.tmp 81) rfl g off rfl (bys id) _ HRI.out Try.underlying53 rfl HSH.out (hK _ _ ?_))
                  clear hEQ hgh f1 c32
                  have k7 := (HK0.out _ HB6.out).1
                  have j0 := k7.c0
                  have j1 := k7.c1
                  have j2 := k7.c2
                  have j3 := k7.c3
                  clear k7
                  go_wp2_with fail
                  refine (HFX.out _ (HK0.out _ HB6.out).2).mono ?_
                  rintro e w7 ⟨rfl, b7⟩
                  have HB7 := Lib.hid (HB6.out.trans (b7.mono HB6.out.size))
                  clear b7 j0 j1 j2 j3
                  go_wp2_with fail
                  refine (HNO.out _).mono ?_
                  rintro e w8 ⟨rfl, b8⟩
                  have HB8 := Lib.hid (HB7.out.trans (b8.mono HB7.out.size))
                  clear b8
                  have hgp := gu_pt
                  have hpe := HPE.out
                  go_wp2_with fail
                  go_ret
                  exact ⟨rfl, (HK0.out _ HB8.out).2⟩
              · rw [decide_eq_false hO] at HFX
                have hO1 : ((O : Int) == 4294967295) = false := beq_eq_false_iff_ne.2 (by omega)
                clear hO
                rcases hcase with ⟨rfl, rfl⟩ | ⟨rfl, rfl⟩
                all_goals
                  go_upto_region 18 with (show wpList _ _ _ (Oper.mk (some 82) _ _ _ _ _ :: _) _ _; refine wpList_of_wp_g (by kernel_rfl) fun K hK => wp_load_mid 53 (.tmp 81) rfl g off rfl (bys id) _ HRI.out Try.underlying53 rfl HSH.out (hK _ _ ?_))
                  clear hEQ hgh f1 c32
                  have k7 := (HK0.out _ HB6.out).1
                  have j0 := k7.c0
                  have j1 := k7.c1
                  have j2 := k7.c2
                  have j3 := k7.c3
                  clear k7
                  go_wp2_with fail
                  refine (HFX.out _ (HK0.out _ HB6.out).2).mono ?_
                  rintro e w7 ⟨rfl, b7⟩
                  have HB7 := Lib.hid (HB6.out.trans (b7.mono HB6.out.size))
                  clear b7 j0 j1 j2 j3
                  go_wp2_with fail
                  refine (HNO.out _).mono ?_
                  rintro e w8 ⟨rfl, b8⟩
                  have HB8 := Lib.hid (HB7.out.trans (b8.mono HB7.out.size))
                  clear b8
                  have hgp := gu_pt
                  have hpe := HPE.out
                  go_wp2_with fail
                  go_ret
                  exact ⟨rfl, (HK0.out _ HB8.out).2⟩
            · rw [decide_eq_false hid] at hEQ HFX
              clear hid
              rcases hcase with ⟨rfl, rfl⟩ | ⟨rfl, rfl⟩
              all_goals
                go_upto_region 18 with (show wpList _ _ _ (Oper.mk (some 82) _ _ _ _ _ :: _) _ _; refine wpList_of_wp_g (by kernel_rfl) fun K hK => wp_load_mid 53 (.tmp 81) rfl g off rfl (bys id) _ HRI.out Try.underlying53 rfl HSH.out (hK _ _ ?_))
                clear hEQ hgh f1 c32
                have k7 := (HK0.out _ HB6.out).1
                have j0 := k7.c0
                have j1 := k7.c1
                have j2 := k7.c2
                have j3 := k7.c3
                clear k7
                go_wp2_with fail
                refine (HFX.out _ (HK0.out _ HB6.out).2).mono ?_
                rintro e w7 ⟨rfl, b7⟩
                have HB7 := Lib.hid (HB6.out.trans (b7.mono HB6.out.size))
                clear b7 j0 j1 j2 j3
                go_wp2_with fail
                refine (HNO.out _).mono ?_
                rintro e w8 ⟨rfl, b8⟩
                have HB8 := Lib.hid (HB7.out.trans (b8.mono HB7.out.size))
                clear b8
                have hgp := gu_pt
                have hpe := HPE.out
                go_wp2_with fail
                go_ret
                exact ⟨rfl, (HK0.out _ HB8.out).2⟩
          · have h1' : ((n : Int) == 1) = false := beq_eq_false_iff_ne.2 (by omega)
            have hnm : firstM ins = false := firstM_no (by have := HN.out; omega)
            have HFX := HFI
            rw [hnm] at HFX
            clear hnm hn1
            rcases hcase with ⟨rfl, rfl⟩ | ⟨rfl, rfl⟩
            all_goals
              go_upto_region 18 with fail
              clear f1
              have k7 := (HK0.out _ HB6.out).1
              have j0 := k7.c0
              have j1 := k7.c1
              have j2 := k7.c2
              have j3 := k7.c3
              clear k7
              go_wp2_with fail
              refine (HFX.out _ (HK0.out _ HB6.out).2).mono ?_
              rintro e w7 ⟨rfl, b7⟩
              have HB7 := Lib.hid (HB6.out.trans (b7.mono HB6.out.size))
              clear b7 j0 j1 j2 j3
              go_wp2_with fail
              refine (HNO.out _).mono ?_
              rintro e w8 ⟨rfl, b8⟩
              have HB8 := Lib.hid (HB7.out.trans (b8.mono HB7.out.size))
              clear b8
              have hgp := gu_pt
              have hpe := HPE.out
              go_wp2_with fail
              go_ret
              exact ⟨rfl, (HK0.out _ HB8.out).2⟩
end Go.Proofs.Ytilleflhbodmkaa
