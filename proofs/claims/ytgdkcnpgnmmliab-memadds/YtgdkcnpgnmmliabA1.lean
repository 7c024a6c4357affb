/- The walk of MemAdds. -/
import Derived.Test.YtgdkcnpgnmmliabA0
namespace Go.Proofs.Ytgdkcnpgnmmliab
set_option linter.unusedSimpArgs false
set_option linter.unusedVariables false
open Go.RowKit

set_option maxHeartbeats 4000000 in
set_option maxRecDepth 100000 in
theorem adds_walk (A : Option Addr) (c : Nat) (L : List En) (w : World) (hr : RdN w w.heap.size 4 A L.length (flat L)) (hf : ∀ x ∈ L, x.fit) (hlen : L.length ≤ maxLen) :
    Calls Try.prog 4 #[.slice A L.length c] w fun e w' => e = .returned (.bool true) ∧ Below w.heap.size w w' := by
  have HBIG := Lib.hid (fun W (hb : Below w.heap.size w W) => big_any A c L W ((hr.below hb).up hb.size) hf hlen)
  have HR := Lib.hid hr
  have HF := Lib.hid hf
  have hlen' : (L.length : Int) ≤ 9223372036854775807 := by unfold maxLen at hlen; omega
  clear hr hf hlen
  obtain ⟨bg, hbg⟩ : ∃ bg, bg = bigE L := ⟨_, rfl⟩
  rw [← hbg] at HBIG
  have HBG := Lib.hid hbg
  clear hbg
  obtain ⟨n, hn⟩ : ∃ n, n = L.length := ⟨_, rfl⟩
  rw [← hn] at HBIG hlen' ⊢
  have HN := Lib.hid hn
  clear hn
  generalize hb : w.heap.size = b at *
  have HBb := Lib.hid hb
  clear hb
  go_enter Try.func4, Try.ntmps4
  go_upto_region 3 with (go_at_call 15; refine (head_any _).mono ?_; rintro e w1 ⟨rfl, hb1⟩)
  rw [HBb.out] at hb1
  have HB1 := Lib.hid hb1
  have hs1 : b ≤ w1.heap.size := by have := hb1.size; rw [HBb.out] at this; exact this
  clear hb1
  go_wp2_with fail
  refine (HBIG.out _ HB1.out).mono ?_
  rintro e w2 ⟨rfl, hb2⟩
  have HB2 := Lib.hid (HB1.out.trans (hb2.mono hs1))
  have hs2 : b ≤ w2.heap.size := Nat.le_trans hs1 hb2.size
  clear hb2 HB1 HBIG
  cases bg with
  | true =>
    go_wp2
    go_ret
    exact ⟨rfl, HB2.out⟩
  | false =>
    have hno := bigE_no L HBG.out.symm
    have h60 : n ≤ 60 := by have := hno.1; have := HN.out; omega
    clear hno
    go_upto_region 6 with (go_at_call 17; refine (new_any _).mono ?_; rintro e w' ⟨rfl, rfl⟩)
    have TA := Tb.new w2 w2.heap.size (Nat.le_refl _)
    have b3 := newT_below w2
    have z3 := newT_size w2
    change Tb (newT w2) _ _ _ _ _ at TA
    change Code.wp _ _ _ _ (newT w2)
    generalize newT w2 = w3 at *
    obtain ⟨B, hB⟩ : ∃ B, B = w2.heap.size := ⟨_, rfl⟩
    rw [← hB] at TA b3 z3 hs2 ⊢
    have HBB := Lib.hid hB
    have HZ3 := Lib.hid z3
    have HTA := Lib.hid TA
    have HB3 := Lib.hid b3
    clear hB z3 TA b3
    go_upto_region 7 with fail
    obtain ⟨D, hD⟩ : ∃ D, D = w3.heap.size := ⟨_, rfl⟩
    rw [← hD]
    have O0 : AddS (w3.alloc (.cells #[] 42)) B (B + 1) B 0 (.slice none 0 0) [] (.slice (some ⟨D, 0, none⟩) 0 0) := by
      have ba : Below w3.heap.size w3 (w3.alloc (.cells #[] 42)) := (Below.refl _ _).alloc (Nat.le_refl _) _
      have hn := heap_alloc_new w3 (.cells #[] 42)
      rw [← hD] at hn
      have e1 := HZ3.out
      refine ⟨Few.nil, HTA.out.below ba, ⟨rfl, .inr ⟨D, 0, #[], rfl, by omega, hn, Nat.le_refl _, Nat.zero_le _, rfl, rfl⟩⟩, ?_⟩
      intro k hk hk'
      simp [ft, Value.ownBlock] at hk hk'
      omega
    have BW2 : Below B w2 (w3.alloc (.cells #[] 42)) := HB3.out.alloc (by have := HZ3.out; omega) _
    have HO0 := Lib.hid O0
    have HBW := Lib.hid BW2
    clear O0 BW2 hD HTA HB3
    generalize w3.alloc (.cells #[] 42) = w4 at *
    go_upto_region 9 with fail
    go_loopg [4, 5, 7, 8, 9, 10, 25] n (fun kx s4 s5 s7 s8 s9 s10 s25 wr => ∃ (i : Nat) (M : List En) (va vi : Value), i ≤ n ∧ s25 = .int .i64 i ∧ n - i ≤ kx ∧ s4 = vi ∧ s5 = .int .i64 (szE M : Nat) ∧ Hid (AddS wr B (B + 1) B i va M vi) ∧ Hid (Below B w2 wr))
    case atStart => exact ⟨0, [], _, _, Nat.zero_le _, rfl, Nat.le_refl _, rfl, rfl, HO0, HBW⟩
    case round =>
      obtain ⟨i, M, va, vi, hi, rfl, hkx, rfl, rfl, HO, HW⟩ := hrel
      obtain ⟨Ai, ci, rfl, hnci, hcmi, _⟩ := own_rdN HO.out.row
      have hM : (M.length : Int) ≤ 60 := by have := HO.out.few.len; omega
      have hsm := HO.out.few.size
      have hsM : (szE M : Int) ≤ 4200000 := by omega
      have hBw : Below b w wr := HB2.out.trans (HW.out.mono hs2)
      have hBs : B ≤ wr.heap.size := by have := HW.out.size; rw [← HBB.out] at this; exact this
      unfold maxLen at hcmi
      obtain ⟨m, hm⟩ : ∃ m, m = M.length := ⟨_, rfl⟩
      rw [← hm] at hM hnci ⊢
      have HMl := Lib.hid hm
      clear hm hsm
      by_cases hlt : i < n
      · obtain ⟨y, hy⟩ : ∃ y, L[i]? = some y := ⟨_, List.getElem?_eq_getElem (by have := HN.out; omega)⟩
        have hfit := fit_of HF.out hy
        have hyk : (y.k.size : Int) ≤ 9223372036854775807 := by have := hfit.1; unfold maxLen at this; omega
        have hyv : (y.v.size : Int) ≤ 9223372036854775807 := by have := hfit.2.1; unfold maxLen at this; omega
        have HADD := Lib.hid (fun r (hr : addR M y = r) => fun W (hb : Below wr.heap.size wr W) => add_to B (B + 1) B va M (addL M y) y r W ⟨hr, rfl⟩ (HO.out.ta.below hb) (Nat.le_trans hBs hb.size) (by have := HMl.out; omega) (by omega) hfit.1 hfit.2.1)
        have HCHK := Lib.hid (fun W => check_any y.k y.S y.d y.v hfit.1 hfit.2.1 W)
        obtain ⟨ck, hck⟩ : ∃ ck, ck = chkE y := ⟨_, rfl⟩
        have hck2 : chk y.k.size y.S y.d y.v.size = ck := hck.symm
        rw [hck2] at HCHK
        have HCK := Lib.hid hck
        clear hck hck2
        obtain ⟨g, off, rfl, hgb, c0, c1, c2, c3⟩ := (HR.out.below hBw).ent i y hy
        clear hy hfit
        go_upto_region 11 with fail
        generalize hw0 : wr.alloc (.cells #[.string y.k, .int .u64 y.S, .bool y.d, .string y.v] 42) = wq
        have bq : Below wr.heap.size wr wq := by rw [← hw0]; exact (Below.refl _ _).alloc (Nat.le_refl _) _
        have Yq : Bx4 wq wr.heap.size (.string y.k) (.int .u64 y.S) (.bool y.d) (.string y.v) := by rw [← hw0]; exact Bx4.new wr _ _ _ _ _
        obtain ⟨gq, hgq⟩ : ∃ gq, gq = wr.heap.size := ⟨_, rfl⟩
        rw [← hgq] at Yq ⊢
        have y0 := Yq.c0
        have y1 := Yq.c1
        have y2 := Yq.c2
        have y3 := Yq.c3
        have HNF : Hid (gq ∉ ft (B + 1) B va) := Lib.hid (by rw [hgq]; exact not_foot HO.out.ta)
        have HGQ := Lib.hid hgq
        clear hgq
        go_upto_region 12 with (go_at_call 18; refine (HCHK.out _).mono ?_; rintro e w5 ⟨rfl, hb5⟩)
        have B5 : Below wr.heap.size wr w5 := bq.trans (hb5.mono bq.size)
        have Y5 := Yq.keep (hb5.block _ Yq.lt)
        have HB5 := Lib.hid B5
        have HY5 := Lib.hid Y5
        have HO5 := Lib.hid (HO.out.below B5)
        have hs5 : gq < w5.heap.size := Y5.lt
        have hs5r : wr.heap.size ≤ w5.heap.size := B5.size
        clear hw0 bq Yq c0 c1 c2 c3 hBw y0 y1 y2 y3 hb5 B5 Y5
        generalize hwr : wr = wo at *
        clear hwr
        go_upto_region 13 with fail
        go_loopg [9] m (fun kx s9 wr => ∃ a : Nat, a ≤ m ∧ s9 = .int .i64 a ∧ m - a ≤ kx ∧ Hid (Below w5.heap.size w5 wr) ∧ Hid (∀ k z, k < a → M[k]? = some z → cmpE z y < 0))
        case atStart => exact ⟨0, Nat.zero_le _, rfl, Nat.le_refl _, Lib.hid (Below.refl _ _), Lib.hid (fun k z h => absurd h (Nat.not_lt_zero _))⟩
        case round =>
          obtain ⟨a, ha, rfl, hka, HWa, HIa⟩ := hrel
          have HOr := Lib.hid (HO5.out.below HWa.out)
          have HYr := Lib.hid (HY5.out.keep (HWa.out.block _ hs5))
          have hsr : gq < wr.heap.size := Nat.lt_of_lt_of_le hs5 HWa.out.size
          have hsr2 : wo.heap.size ≤ wr.heap.size := Nat.le_trans hs5r HWa.out.size
          by_cases hlt2 : a < m
          · obtain ⟨u, hu⟩ : ∃ u, M[a]? = some u := ⟨_, List.getElem?_eq_getElem (by have := HMl.out; omega)⟩
            have HU := Lib.hid hu
            obtain ⟨A', c', e', _, _, hrd⟩ := own_rdN HOr.out.row
            injection e' with e1 e2 e3
            rw [← e1] at hrd
            obtain ⟨g, off, rfl, hgb, d0, d1, d2, d3⟩ := hrd.ent a u hu
            have HKS : Hid (∀ wx, Below wr.heap.size wr wx → (wx.cell? ⟨gq, 0, none⟩ = some (.string y.k) ∧ wx.cell? ⟨gq, 1, none⟩ = some (.int .u64 y.S) ∧ wx.cell? ⟨gq, 2, none⟩ = some (.bool y.d) ∧ wx.cell? ⟨gq, 3, none⟩ = some (.string y.v)) ∧ (wx.cell? ⟨g, off + a * 4, none⟩ = some (.string u.k) ∧ wx.cell? ⟨g, off + a * 4 + 1, none⟩ = some (.int .u64 u.S) ∧ wx.cell? ⟨g, off + a * 4 + 2, none⟩ = some (.bool u.d) ∧ wx.cell? ⟨g, off + a * 4 + 3, none⟩ = some (.string u.v))) := Lib.hid fun wx hb => by
              have k := HYr.out.keep (hb.block _ hsr)
              exact ⟨⟨k.c0, k.c1, k.c2, k.c3⟩, (hb.cell (p := ⟨g, _, none⟩) hgb).trans d0, (hb.cell (p := ⟨g, _, none⟩) hgb).trans d1, (hb.cell (p := ⟨g, _, none⟩) hgb).trans d2, (hb.cell (p := ⟨g, _, none⟩) hgb).trans d3⟩
            have HC := Lib.hid (fun W => cmp_en u y W)
            obtain ⟨z, hz⟩ : ∃ z, z = cmpE u y := ⟨_, rfl⟩
            rw [← hz] at HC
            have HZ := Lib.hid hz
            clear hz hu hrd e1 e2 e3 d0 d1 d2 d3
            go_upto_region 13 with fail
            refine wp_region_noPanic ?_
            refine wp_region_held_drew (S := (fun wx => Below wr.heap.size wr wx ∧ (wx.cell? ⟨gq, 0, none⟩ = some (.string y.k) ∧ wx.cell? ⟨gq, 1, none⟩ = some (.int .u64 y.S) ∧ wx.cell? ⟨gq, 2, none⟩ = some (.bool y.d) ∧ wx.cell? ⟨gq, 3, none⟩ = some (.string y.v)) ∧ (wx.cell? ⟨g, off + a * 4, none⟩ = some (.string u.k) ∧ wx.cell? ⟨g, off + a * 4 + 1, none⟩ = some (.int .u64 u.S) ∧ wx.cell? ⟨g, off + a * 4 + 2, none⟩ = some (.bool u.d) ∧ wx.cell? ⟨g, off + a * 4 + 3, none⟩ = some (.string u.v)))) (by kernel_rfl) (⟨(Below.refl _ _).drew, HKS.out _ (Below.refl _ _).drew⟩) (fun hHeld => ?_)
            refine wpAnyH_take (i := 0) (v := ?_) (by simp only [List.getElem?_toArray, List.getElem?_cons_succ, List.getElem?_cons_zero]; rfl) (by kernel_rfl) (by kernel_rfl) (by kernel_rfl) (fun _ _ _ h => h) (Or.inl ⟨by rfl, ?_⟩) (by assumption) ?_
            rotate_left
            · (intro w hSw; (try dsimp only at hSw); go_simp; (try with_reducible rfl))
            (try simp only [Act.put, List.setIfInBounds_toArray, List.set_cons_zero, List.set_cons_succ])
            refine wpAnyH_take (i := 1) (v := ?_) (by simp only [List.getElem?_toArray, List.getElem?_cons_succ, List.getElem?_cons_zero]; rfl) (by kernel_rfl) (by kernel_rfl) (by kernel_rfl) (fun _ _ _ h => h) (Or.inl ⟨by rfl, ?_⟩) (by assumption) ?_
            rotate_left
            · (intro w hSw; (try dsimp only at hSw); go_simp; (try with_reducible rfl))
            (try simp only [Act.put, List.setIfInBounds_toArray, List.set_cons_zero, List.set_cons_succ])
            refine wpAnyH_take (i := 2) (v := ?_) (by simp only [List.getElem?_toArray, List.getElem?_cons_succ, List.getElem?_cons_zero]; rfl) (by kernel_rfl) (by kernel_rfl) (by kernel_rfl) (fun _ _ _ h => h) (Or.inl ⟨by rfl, ?_⟩) (by assumption) ?_
            rotate_left
            · (intro w hSw; (try dsimp only at hSw); go_simp; (try with_reducible rfl))
            (try simp only [Act.put, List.setIfInBounds_toArray, List.set_cons_zero, List.set_cons_succ])
            refine wpAnyH_take (i := 3) (v := ?_) (by simp only [List.getElem?_toArray, List.getElem?_cons_succ, List.getElem?_cons_zero]; rfl) (by kernel_rfl) (by kernel_rfl) (by kernel_rfl) (fun _ _ _ h => h) (Or.inl ⟨by rfl, ?_⟩) (by assumption) ?_
            rotate_left
            · (intro w hSw; (try dsimp only at hSw); go_simp; (try with_reducible rfl))
            (try simp only [Act.put, List.setIfInBounds_toArray, List.set_cons_zero, List.set_cons_succ])
            refine wpAnyH_take (i := 4) (v := ?_) (by simp only [List.getElem?_toArray, List.getElem?_cons_succ, List.getElem?_cons_zero]; rfl) (by kernel_rfl) (by kernel_rfl) (by kernel_rfl) (fun _ _ _ h => h) (Or.inl ⟨by rfl, ?_⟩) (by assumption) ?_
            rotate_left
            · (intro w hSw; (try dsimp only at hSw); go_simp; (try with_reducible rfl))
            (try simp only [Act.put, List.setIfInBounds_toArray, List.set_cons_zero, List.set_cons_succ])
            refine wpAnyH_take (i := 5) (v := ?_) (by simp only [List.getElem?_toArray, List.getElem?_cons_succ, List.getElem?_cons_zero]; rfl) (by kernel_rfl) (by kernel_rfl) (by kernel_rfl) (fun _ _ _ h => h) (Or.inl ⟨by rfl, ?_⟩) (by assumption) ?_
            rotate_left
            · (intro w hSw; (try dsimp only at hSw); go_simp; (try with_reducible rfl))
            (try simp only [Act.put, List.setIfInBounds_toArray, List.set_cons_zero, List.set_cons_succ])
            refine wpAnyH_take (i := 6) (v := ?_) (by simp only [List.getElem?_toArray, List.getElem?_cons_succ, List.getElem?_cons_zero]; rfl) (by kernel_rfl) (by kernel_rfl) (by kernel_rfl) (fun _ _ _ h => h) (Or.inl ⟨by rfl, ?_⟩) (by assumption) ?_
            rotate_left
            · (intro w hSw; (try dsimp only at hSw); go_simp; (try with_reducible rfl))
            (try simp only [Act.put, List.setIfInBounds_toArray, List.set_cons_zero, List.set_cons_succ])
            refine wpAnyH_take (i := 7) (v := ?_) (by simp only [List.getElem?_toArray, List.getElem?_cons_succ, List.getElem?_cons_zero]; rfl) (by kernel_rfl) (by kernel_rfl) (by kernel_rfl) (fun _ _ _ h => h) (Or.inl ⟨by rfl, ?_⟩) (by assumption) ?_
            rotate_left
            · (intro w hSw; (try dsimp only at hSw); go_simp; (try with_reducible rfl))
            (try simp only [Act.put, List.setIfInBounds_toArray, List.set_cons_zero, List.set_cons_succ])
            refine wpAnyH_take (i := 8) (v := ?_) (by simp only [List.getElem?_toArray, List.getElem?_cons_succ, List.getElem?_cons_zero]; rfl) (by kernel_rfl) (by kernel_rfl) (by kernel_rfl) (fun _ _ _ h => h) (Or.inl ⟨by rfl, ?_⟩) (by assumption) ?_
            rotate_left
            · (intro w hSw; (try dsimp only at hSw); go_simp; (try with_reducible rfl))
            (try simp only [Act.put, List.setIfInBounds_toArray, List.set_cons_zero, List.set_cons_succ])
            refine wpAnyH_take (i := 9) (v := ?_) (by simp only [List.getElem?_toArray, List.getElem?_cons_succ, List.getElem?_cons_zero]; rfl) (by kernel_rfl) (by kernel_rfl) (by kernel_rfl) (fun _ _ _ h => h) (Or.inl ⟨by rfl, ?_⟩) (by assumption) ?_
            rotate_left
            · (intro w hSw; (try dsimp only at hSw); go_simp; (try with_reducible rfl))
            (try simp only [Act.put, List.setIfInBounds_toArray, List.set_cons_zero, List.set_cons_succ])
            refine wpAnyH_ready (rs := [10]) (by kernel_rfl) (by simp) ?_
            refine AllReadyH.cons (by simp only [List.getElem?_toArray, List.getElem?_cons_succ, List.getElem?_cons_zero]; rfl) (fun K hK => ?_) AllReadyH.nil
            go_simp
            refine (HC.out _).mono ?_
            rintro ee w6 ⟨rfl, hb6⟩
            have hB6 := hHeld.1.trans (hb6.mono hHeld.1.size)
            refine hK.out _ _ ?_ (fun hHeld => ?_)
            · exact ⟨hB6, HKS.out _ hB6⟩
            clear hK K
            (try simp only [Act.put, List.setIfInBounds_toArray, List.set_cons_zero, List.set_cons_succ])
            refine wpAnyH_take (i := 11) (v := ?_) (by simp only [List.getElem?_toArray, List.getElem?_cons_succ, List.getElem?_cons_zero]; rfl) (by kernel_rfl) (by kernel_rfl) (by kernel_rfl) (fun _ _ _ h => h) (Or.inl ⟨by rfl, ?_⟩) (by assumption) ?_
            rotate_left
            · (intro w hSw; (try dsimp only at hSw); go_simp; (try with_reducible rfl))
            (try simp only [Act.put, List.setIfInBounds_toArray, List.set_cons_zero, List.set_cons_succ])
            refine wpAnyH_take (i := 12) (v := ?_) (by simp only [List.getElem?_toArray, List.getElem?_cons_succ, List.getElem?_cons_zero]; rfl) (by kernel_rfl) (by kernel_rfl) (by kernel_rfl) (fun _ _ _ h => h) (Or.inl ⟨by rfl, ?_⟩) (by assumption) ?_
            rotate_left
            · (intro w hSw; (try dsimp only at hSw); go_simp; (try with_reducible rfl))
            (try simp only [Act.put, List.setIfInBounds_toArray, List.set_cons_zero, List.set_cons_succ])
            refine wpAnyH_done (by kernel_rfl) ?_ _
            refine NoPanic.normal ?_
            have HB6 := Lib.hid hB6
            clear hB6 hb6 hHeld
            by_cases hz0 : z < 0
            · go_wp2
              go_roundg (m - (a + 1))
              case measure => omega
              case rel =>
                refine ⟨a + 1, by omega, by go_num, Nat.le_refl _, Lib.hid (HWa.out.trans (HB6.out.mono HWa.out.size)), Lib.hid (fun k z' hk hz' => ?_)⟩
                rcases Nat.lt_or_eq_of_le (Nat.le_of_lt_succ hk) with h | h
                · exact HIa.out k z' h hz'
                · subst h
                  rw [HU.out] at hz'
                  injection hz' with e
                  rw [← e, ← HZ.out]
                  exact hz0
            · have HPOS : Hid (pos cmpE M y = a) := Lib.hid (pos_eq cmpE M y a (by have := HMl.out; omega) HIa.out (fun z' hz' => by rw [HU.out] at hz'; injection hz' with e; rw [← e, ← HZ.out]; exact hz0))
              have HHIT : Hid (hit cmpE M y = decide (z = 0)) := Lib.hid (by unfold hit; rw [HPOS.out, HU.out, HZ.out])
              have HO6 := Lib.hid (HOr.out.below HB6.out)
              have HY6 := Lib.hid (HYr.out.keep (HB6.out.block _ hsr))
              have hs6 : gq < w6.heap.size := HY6.out.lt
              have hs62 : wo.heap.size ≤ w6.heap.size := Nat.le_trans hsr2 HB6.out.size
              have HB56 := Lib.hid ((HB5.out.trans (HWa.out.mono hs5r)).trans (HB6.out.mono hsr2))
              go_upto_region 15 with fail
              by_cases hc0 : ck = 0
              · subst hc0
                have HKS6 : Hid (∀ wx, Below w6.heap.size w6 wx → (wx.cell? ⟨gq, 0, none⟩ = some (.string y.k) ∧ wx.cell? ⟨gq, 1, none⟩ = some (.int .u64 y.S) ∧ wx.cell? ⟨gq, 2, none⟩ = some (.bool y.d) ∧ wx.cell? ⟨gq, 3, none⟩ = some (.string y.v)) ∧ (wx.cell? ⟨g, off + a * 4, none⟩ = some (.string u.k) ∧ wx.cell? ⟨g, off + a * 4 + 1, none⟩ = some (.int .u64 u.S) ∧ wx.cell? ⟨g, off + a * 4 + 2, none⟩ = some (.bool u.d) ∧ wx.cell? ⟨g, off + a * 4 + 3, none⟩ = some (.string u.v))) := Lib.hid fun wx hb => HKS.out wx (HB6.out.trans (hb.mono HB6.out.size))
                refine wp_region_noPanic ?_
                refine wp_region_held_drew (S := (fun wx => Below w6.heap.size w6 wx ∧ (wx.cell? ⟨gq, 0, none⟩ = some (.string y.k) ∧ wx.cell? ⟨gq, 1, none⟩ = some (.int .u64 y.S) ∧ wx.cell? ⟨gq, 2, none⟩ = some (.bool y.d) ∧ wx.cell? ⟨gq, 3, none⟩ = some (.string y.v)) ∧ (wx.cell? ⟨g, off + a * 4, none⟩ = some (.string u.k) ∧ wx.cell? ⟨g, off + a * 4 + 1, none⟩ = some (.int .u64 u.S) ∧ wx.cell? ⟨g, off + a * 4 + 2, none⟩ = some (.bool u.d) ∧ wx.cell? ⟨g, off + a * 4 + 3, none⟩ = some (.string u.v)))) (by kernel_rfl) (⟨(Below.refl _ _).drew, HKS6.out _ (Below.refl _ _).drew⟩) (fun hHeld => ?_)
                refine wpAnyH_take (i := 0) (v := ?_) (by simp only [List.getElem?_toArray, List.getElem?_cons_succ, List.getElem?_cons_zero]; rfl) (by kernel_rfl) (by kernel_rfl) (by kernel_rfl) (fun _ _ _ h => h) (Or.inl ⟨by rfl, ?_⟩) (by assumption) ?_
                rotate_left
                · (intro w hSw; (try dsimp only at hSw); go_simp; (try with_reducible rfl))
                (try simp only [Act.put, List.setIfInBounds_toArray, List.set_cons_zero, List.set_cons_succ])
                refine wpAnyH_take (i := 1) (v := ?_) (by simp only [List.getElem?_toArray, List.getElem?_cons_succ, List.getElem?_cons_zero]; rfl) (by kernel_rfl) (by kernel_rfl) (by kernel_rfl) (fun _ _ _ h => h) (Or.inl ⟨by rfl, ?_⟩) (by assumption) ?_
                rotate_left
                · (intro w hSw; (try dsimp only at hSw); go_simp; (try with_reducible rfl))
                (try simp only [Act.put, List.setIfInBounds_toArray, List.set_cons_zero, List.set_cons_succ])
                refine wpAnyH_take (i := 2) (v := ?_) (by simp only [List.getElem?_toArray, List.getElem?_cons_succ, List.getElem?_cons_zero]; rfl) (by kernel_rfl) (by kernel_rfl) (by kernel_rfl) (fun _ _ _ h => h) (Or.inl ⟨by rfl, ?_⟩) (by assumption) ?_
                rotate_left
                · (intro w hSw; (try dsimp only at hSw); go_simp; (try with_reducible rfl))
                (try simp only [Act.put, List.setIfInBounds_toArray, List.set_cons_zero, List.set_cons_succ])
                refine wpAnyH_take (i := 3) (v := ?_) (by simp only [List.getElem?_toArray, List.getElem?_cons_succ, List.getElem?_cons_zero]; rfl) (by kernel_rfl) (by kernel_rfl) (by kernel_rfl) (fun _ _ _ h => h) (Or.inl ⟨by rfl, ?_⟩) (by assumption) ?_
                rotate_left
                · (intro w hSw; (try dsimp only at hSw); go_simp; (try with_reducible rfl))
                (try simp only [Act.put, List.setIfInBounds_toArray, List.set_cons_zero, List.set_cons_succ])
                refine wpAnyH_take (i := 4) (v := ?_) (by simp only [List.getElem?_toArray, List.getElem?_cons_succ, List.getElem?_cons_zero]; rfl) (by kernel_rfl) (by kernel_rfl) (by kernel_rfl) (fun _ _ _ h => h) (Or.inl ⟨by rfl, ?_⟩) (by assumption) ?_
                rotate_left
                · (intro w hSw; (try dsimp only at hSw); go_simp; (try with_reducible rfl))
                (try simp only [Act.put, List.setIfInBounds_toArray, List.set_cons_zero, List.set_cons_succ])
                refine wpAnyH_take (i := 5) (v := ?_) (by simp only [List.getElem?_toArray, List.getElem?_cons_succ, List.getElem?_cons_zero]; rfl) (by kernel_rfl) (by kernel_rfl) (by kernel_rfl) (fun _ _ _ h => h) (Or.inl ⟨by rfl, ?_⟩) (by assumption) ?_
                rotate_left
                · (intro w hSw; (try dsimp only at hSw); go_simp; (try with_reducible rfl))
                (try simp only [Act.put, List.setIfInBounds_toArray, List.set_cons_zero, List.set_cons_succ])
                refine wpAnyH_take (i := 6) (v := ?_) (by simp only [List.getElem?_toArray, List.getElem?_cons_succ, List.getElem?_cons_zero]; rfl) (by kernel_rfl) (by kernel_rfl) (by kernel_rfl) (fun _ _ _ h => h) (Or.inl ⟨by rfl, ?_⟩) (by assumption) ?_
                rotate_left
                · (intro w hSw; (try dsimp only at hSw); go_simp; (try with_reducible rfl))
                (try simp only [Act.put, List.setIfInBounds_toArray, List.set_cons_zero, List.set_cons_succ])
                refine wpAnyH_take (i := 7) (v := ?_) (by simp only [List.getElem?_toArray, List.getElem?_cons_succ, List.getElem?_cons_zero]; rfl) (by kernel_rfl) (by kernel_rfl) (by kernel_rfl) (fun _ _ _ h => h) (Or.inl ⟨by rfl, ?_⟩) (by assumption) ?_
                rotate_left
                · (intro w hSw; (try dsimp only at hSw); go_simp; (try with_reducible rfl))
                (try simp only [Act.put, List.setIfInBounds_toArray, List.set_cons_zero, List.set_cons_succ])
                refine wpAnyH_take (i := 8) (v := ?_) (by simp only [List.getElem?_toArray, List.getElem?_cons_succ, List.getElem?_cons_zero]; rfl) (by kernel_rfl) (by kernel_rfl) (by kernel_rfl) (fun _ _ _ h => h) (Or.inl ⟨by rfl, ?_⟩) (by assumption) ?_
                rotate_left
                · (intro w hSw; (try dsimp only at hSw); go_simp; (try with_reducible rfl))
                (try simp only [Act.put, List.setIfInBounds_toArray, List.set_cons_zero, List.set_cons_succ])
                refine wpAnyH_take (i := 9) (v := ?_) (by simp only [List.getElem?_toArray, List.getElem?_cons_succ, List.getElem?_cons_zero]; rfl) (by kernel_rfl) (by kernel_rfl) (by kernel_rfl) (fun _ _ _ h => h) (Or.inl ⟨by rfl, ?_⟩) (by assumption) ?_
                rotate_left
                · (intro w hSw; (try dsimp only at hSw); go_simp; (try with_reducible rfl))
                (try simp only [Act.put, List.setIfInBounds_toArray, List.set_cons_zero, List.set_cons_succ])
                refine wpAnyH_take (i := 10) (v := ?_) (by simp only [List.getElem?_toArray, List.getElem?_cons_succ, List.getElem?_cons_zero]; rfl) (by kernel_rfl) (by kernel_rfl) (by kernel_rfl) (fun _ _ _ h => h) (Or.inl ⟨by rfl, ?_⟩) (by assumption) ?_
                rotate_left
                · (intro w hSw; (try dsimp only at hSw); go_simp; (try with_reducible rfl))
                (try simp only [Act.put, List.setIfInBounds_toArray, List.set_cons_zero, List.set_cons_succ])
                refine wpAnyH_take (i := 11) (v := ?_) (by simp only [List.getElem?_toArray, List.getElem?_cons_succ, List.getElem?_cons_zero]; rfl) (by kernel_rfl) (by kernel_rfl) (by kernel_rfl) (fun _ _ _ h => h) (Or.inl ⟨by rfl, ?_⟩) (by assumption) ?_
                rotate_left
                · (intro w hSw; (try dsimp only at hSw); go_simp; (try with_reducible rfl))
                (try simp only [Act.put, List.setIfInBounds_toArray, List.set_cons_zero, List.set_cons_succ])
                refine wpAnyH_take (i := 12) (v := ?_) (by simp only [List.getElem?_toArray, List.getElem?_cons_succ, List.getElem?_cons_zero]; rfl) (by kernel_rfl) (by kernel_rfl) (by kernel_rfl) (fun _ _ _ h => h) (Or.inl ⟨by rfl, ?_⟩) (by assumption) ?_
                rotate_left
                · (intro w hSw; (try dsimp only at hSw); go_simp; (try with_reducible rfl))
                (try simp only [Act.put, List.setIfInBounds_toArray, List.set_cons_zero, List.set_cons_succ])
                refine wpAnyH_take (i := 13) (v := ?_) (by simp only [List.getElem?_toArray, List.getElem?_cons_succ, List.getElem?_cons_zero]; rfl) (by kernel_rfl) (by kernel_rfl) (by kernel_rfl) (fun _ _ _ h => h) (Or.inl ⟨by rfl, ?_⟩) (by assumption) ?_
                rotate_left
                · (intro w hSw; (try dsimp only at hSw); go_simp; (try with_reducible rfl))
                (try simp only [Act.put, List.setIfInBounds_toArray, List.set_cons_zero, List.set_cons_succ])
                refine wpAnyH_ready (rs := [14]) (by kernel_rfl) (by simp) ?_
                refine AllReadyH.cons (by simp only [List.getElem?_toArray, List.getElem?_cons_succ, List.getElem?_cons_zero]; rfl) (fun K hK => ?_) AllReadyH.nil
                go_simp
                refine (HC.out _).mono ?_
                rintro ee w7 ⟨rfl, hb7⟩
                have hB7 := hHeld.1.trans (hb7.mono hHeld.1.size)
                refine hK.out _ _ ?_ (fun hHeld => ?_)
                · exact ⟨hB7, HKS6.out _ hB7⟩
                clear hK K
                (try simp only [Act.put, List.setIfInBounds_toArray, List.set_cons_zero, List.set_cons_succ])
                refine wpAnyH_take (i := 15) (v := ?_) (by simp only [List.getElem?_toArray, List.getElem?_cons_succ, List.getElem?_cons_zero]; rfl) (by kernel_rfl) (by kernel_rfl) (by kernel_rfl) (fun _ _ _ h => h) (Or.inl ⟨by rfl, ?_⟩) (by assumption) ?_
                rotate_left
                · (intro w hSw; (try dsimp only at hSw); go_simp; (try with_reducible rfl))
                (try simp only [Act.put, List.setIfInBounds_toArray, List.set_cons_zero, List.set_cons_succ])
                refine wpAnyH_take (i := 16) (v := ?_) (by simp only [List.getElem?_toArray, List.getElem?_cons_succ, List.getElem?_cons_zero]; rfl) (by kernel_rfl) (by kernel_rfl) (by kernel_rfl) (fun _ _ _ h => h) (Or.inl ⟨by rfl, ?_⟩) (by assumption) ?_
                rotate_left
                · (intro w hSw; (try dsimp only at hSw); go_simp; (try with_reducible rfl))
                (try simp only [Act.put, List.setIfInBounds_toArray, List.set_cons_zero, List.set_cons_succ])
                refine wpAnyH_done (by kernel_rfl) ?_ _
                refine NoPanic.normal ?_
                have HB7 := Lib.hid hB7
                clear hB7 hb7 hHeld
                by_cases hz1 : z = 0
                · subst hz1
                  have HADR : Hid (addR M y = 5) := Lib.hid (by unfold addR; rw [if_pos HCK.out.symm, HHIT.out]; rfl)
                  have HO7 := Lib.hid (HO6.out.below HB7.out)
                  have HY7 := Lib.hid (HY6.out.keep (HB7.out.block _ hs6))
                  have HB57 := Lib.hid (HB56.out.trans (HB7.out.mono hs62))
                  have hs72 : B ≤ w7.heap.size := by have := HB57.out.size; omega
                  have y0 := HY7.out.c0
                  have y1 := HY7.out.c1
                  have y2 := HY7.out.c2
                  have y3 := HY7.out.c3
                  go_upto_region 17 with fail
                  go_wp2_with fail
                  refine (HADD.out 5 HADR.out _ HB57.out).mono ?_
                  rintro e w8 ⟨v8, rfl, T8, t8, o8⟩
                  have hB8 : Below B w7 w8 := HO7.out.ta.feet t8 hs72
                  have HO8 := Lib.hid (HO7.out.no (by rw [HADR.out]; exact (by decide)) T8 t8 o8)
                  have HB8 := Lib.hid (HW.out.trans ((HB57.out.mono hBs).trans hB8))
                  clear T8 t8 o8 hB8 y0 y1 y2 y3
                  go_wp2
                  go_roundg (n - (i + 1))
                  case measure => omega
                  case rel => exact ⟨i + 1, M, _, _, by omega, by go_num, Nat.le_refl _, by rw [HMl.out], rfl, HO8, HB8⟩
                · have HADR : Hid (addR M y = 0) := Lib.hid (by unfold addR; rw [if_pos HCK.out.symm, HHIT.out, decide_eq_false hz1]; rfl)
                  have hz2 : (z == 0) = false := by simpa using hz1
                  have HO7 := Lib.hid (HO6.out.below HB7.out)
                  have HY7 := Lib.hid (HY6.out.keep (HB7.out.block _ hs6))
                  have HB57 := Lib.hid (HB56.out.trans (HB7.out.mono hs62))
                  have hs72 : B ≤ w7.heap.size := by have := HB57.out.size; omega
                  have y0 := HY7.out.c0
                  have y1 := HY7.out.c1
                  have y2 := HY7.out.c2
                  have y3 := HY7.out.c3
                  go_upto_region 17 with fail
                  go_wp2_with fail
                  refine (HADD.out 0 HADR.out _ HB57.out).mono ?_
                  rintro e w8 ⟨v8, rfl, T8, t8, o8⟩
                  have hB8 : Below B w7 w8 := HO7.out.ta.feet t8 hs72
                  have R8 := own_tch HO7.out.row (show Tch w7 w8 (ft (B + 1) B va) from t8) HO7.out.ai.symm
                  have Y8 := HY7.out.keep (t8.block gq HY7.out.lt HNF.out)
                  obtain ⟨A8, c8, e8, hc8, hcm8, hrd8⟩ := own_rdN R8
                  injection e8 with e81 e82 e83
                  rw [← e81] at hrd8
                  rw [← e83] at hc8
                  obtain ⟨v10, w10, v12, w12, v13, w13, r10, rb, r12, r13, o13, b10, b13⟩ := row3 w8 (some ⟨g, off, none⟩) ci a M y hrd8 (by have := HMl.out; omega) hc8 (by have := HMl.out; omega)
                  have hs8 : B ≤ w8.heap.size := Nat.le_trans hs72 t8.size
                  have o13' : OwnE w13 w8.heap.size v13 (M.take (pos cmpE M y) ++ y :: M.drop (pos cmpE M y)) := by rw [HPOS.out]; exact o13
                  have HO13 := Lib.hid (HO7.out.put HADR.out T8 hs8 o13' b13)
                  have HB13 := Lib.hid ((HW.out.trans ((HB57.out.mono hBs).trans hB8)).trans (b13.mono hs8))
                  have Y10 := Y8.keep (b10.block gq Y8.lt)
                  have Y13 := Y8.keep (b13.block gq Y8.lt)
                  have hca : ¬ (ci = a) := by omega
                  rw [← HMl.out] at r13
                  simp only [if_neg hca, Option.map_some, Addr.add_lit] at r13
                  have k0 := Y10.c0
                  have k1 := Y10.c1
                  have k2 := Y10.c2
                  have k3 := Y10.c3
                  have q0 := Y13.c0
                  have q3 := Y13.c3
                  have hq := chkE_0 y (addL_ok M y HADR.out).2.1
                  have hk1 : (y.k.size : Int) ≤ 128 := by have := hq.1; omega
                  have hk2 : (y.v.size : Int) ≤ 65536 := by have := hq.2.1; omega
                  have HSZ := Lib.hid (szE_ins M y)
                  have HIL := Lib.hid (ins_length cmpE M y)
                  have HR10 := Lib.hid r10
                  have HRB := Lib.hid rb
                  have HR12 := Lib.hid r12
                  have HR13 := Lib.hid r13
                  clear T8 t8 o8 hB8 R8 Y8 e81 e82 e83 hc8 hcm8 hrd8 r10 rb r12 r13 o13 o13' b10 b13 Y10 Y13 hq y0 y1 y2 y3
                  go_upto_region 20 with fail
                  go_upto_region 21 with (at_builtin; refine wpList_appz rfl (.tmp 70) (.tmp 73) 35 35 rfl rfl rfl (HR10.out _) ?_)
                  go_upto_region 22 with (first
                    | (refine arm_build1 35 (.tmp 76) (v' := ?_) (w' := ?_) ?hb1 ?_; case hb1 => exact HRB.out _ rfl)
                    | (at_builtin; refine wpList_appz rfl (.tmp 75) (.tmp 77) 35 35 rfl rfl rfl (HR12.out _) ?_))
                  go_upto_region 23 with (at_builtin; refine wpList_appz rfl (.tmp 79) (.tmp 82) 35 35 rfl rfl rfl (HR13.out _) ?_)
                  clear HR13
                  go_wp2
                  go_roundg (n - (i + 1))
                  case measure => omega
                  case rel =>
                    refine ⟨i + 1, ins cmpE M y, _, _, by omega, by go_num, Nat.le_refl _, rfl, ?_, HO13, HB13⟩
                    rw [HSZ.out]
                    go_num
              · have HADR : Hid (addR M y = ck) := Lib.hid (by unfold addR; rw [if_neg (by rw [← HCK.out]; exact hc0), ← HCK.out])
                have hc2 : (ck == 0) = false := by simpa using hc0
                refine wp_region_noPanic ?_
                refine wp_region_held_drew (S := (fun wx => True)) (by kernel_rfl) (trivial) (fun hHeld => ?_)
                refine wpAnyH_take (i := 0) (v := ?_) (by simp only [List.getElem?_toArray, List.getElem?_cons_succ, List.getElem?_cons_zero]; rfl) (by kernel_rfl) (by kernel_rfl) (by kernel_rfl) (fun _ _ _ h => h) (Or.inl ⟨by rfl, ?_⟩) (by assumption) ?_
                rotate_left
                · (intro w hSw; (try dsimp only at hSw); go_simp; (try with_reducible rfl))
                (try simp only [Act.put, List.setIfInBounds_toArray, List.set_cons_zero, List.set_cons_succ])
                refine wpAnyH_take (i := 1) (v := ?_) (by simp only [List.getElem?_toArray, List.getElem?_cons_succ, List.getElem?_cons_zero]; rfl) (by kernel_rfl) (by kernel_rfl) (by kernel_rfl) (fun _ _ _ h => h) (Or.inl ⟨by rfl, ?_⟩) (by assumption) ?_
                rotate_left
                · (intro w hSw; (try dsimp only at hSw); go_simp; (try with_reducible rfl))
                (try simp only [Act.put, List.setIfInBounds_toArray, List.set_cons_zero, List.set_cons_succ])
                refine wpAnyH_take (i := 2) (v := ?_) (by simp only [List.getElem?_toArray, List.getElem?_cons_succ, List.getElem?_cons_zero]; rfl) (by kernel_rfl) (by kernel_rfl) (by kernel_rfl) (fun _ _ _ h => h) (Or.inl ⟨by rfl, ?_⟩) (by assumption) ?_
                rotate_left
                · (intro w hSw; (try dsimp only at hSw); go_simp; (try with_reducible rfl))
                (try simp only [Act.put, List.setIfInBounds_toArray, List.set_cons_zero, List.set_cons_succ])
                refine wpAnyH_take (i := 3) (v := undef) (by simp only [List.getElem?_toArray, List.getElem?_cons_succ, List.getElem?_cons_zero]; rfl) (by kernel_rfl) (by kernel_rfl) (by kernel_rfl) (fun _ _ _ h => h) (Or.inr ⟨by rfl, rfl⟩) (by assumption) ?_
                (try simp only [Act.put, List.setIfInBounds_toArray, List.set_cons_zero, List.set_cons_succ])
                refine wpAnyH_take (i := 4) (v := undef) (by simp only [List.getElem?_toArray, List.getElem?_cons_succ, List.getElem?_cons_zero]; rfl) (by kernel_rfl) (by kernel_rfl) (by kernel_rfl) (fun _ _ _ h => h) (Or.inr ⟨by rfl, rfl⟩) (by assumption) ?_
                (try simp only [Act.put, List.setIfInBounds_toArray, List.set_cons_zero, List.set_cons_succ])
                refine wpAnyH_take (i := 5) (v := undef) (by simp only [List.getElem?_toArray, List.getElem?_cons_succ, List.getElem?_cons_zero]; rfl) (by kernel_rfl) (by kernel_rfl) (by kernel_rfl) (fun _ _ _ h => h) (Or.inr ⟨by rfl, rfl⟩) (by assumption) ?_
                (try simp only [Act.put, List.setIfInBounds_toArray, List.set_cons_zero, List.set_cons_succ])
                refine wpAnyH_take (i := 6) (v := undef) (by simp only [List.getElem?_toArray, List.getElem?_cons_succ, List.getElem?_cons_zero]; rfl) (by kernel_rfl) (by kernel_rfl) (by kernel_rfl) (fun _ _ _ h => h) (Or.inr ⟨by rfl, rfl⟩) (by assumption) ?_
                (try simp only [Act.put, List.setIfInBounds_toArray, List.set_cons_zero, List.set_cons_succ])
                refine wpAnyH_take (i := 7) (v := ?_) (by simp only [List.getElem?_toArray, List.getElem?_cons_succ, List.getElem?_cons_zero]; rfl) (by kernel_rfl) (by kernel_rfl) (by kernel_rfl) (fun _ _ _ h => h) (Or.inl ⟨by rfl, ?_⟩) (by assumption) ?_
                rotate_left
                · (intro w hSw; (try dsimp only at hSw); go_simp; (try with_reducible rfl))
                (try simp only [Act.put, List.setIfInBounds_toArray, List.set_cons_zero, List.set_cons_succ])
                refine wpAnyH_take (i := 8) (v := ?_) (by simp only [List.getElem?_toArray, List.getElem?_cons_succ, List.getElem?_cons_zero]; rfl) (by kernel_rfl) (by kernel_rfl) (by kernel_rfl) (fun _ _ _ h => h) (Or.inl ⟨by rfl, ?_⟩) (by assumption) ?_
                rotate_left
                · (intro w hSw; (try dsimp only at hSw); go_simp; (try with_reducible rfl))
                (try simp only [Act.put, List.setIfInBounds_toArray, List.set_cons_zero, List.set_cons_succ])
                refine wpAnyH_take (i := 9) (v := undef) (by simp only [List.getElem?_toArray, List.getElem?_cons_succ, List.getElem?_cons_zero]; rfl) (by kernel_rfl) (by kernel_rfl) (by kernel_rfl) (fun _ _ _ h => h) (Or.inr ⟨by rfl, rfl⟩) (by assumption) ?_
                (try simp only [Act.put, List.setIfInBounds_toArray, List.set_cons_zero, List.set_cons_succ])
                refine wpAnyH_take (i := 10) (v := undef) (by simp only [List.getElem?_toArray, List.getElem?_cons_succ, List.getElem?_cons_zero]; rfl) (by kernel_rfl) (by kernel_rfl) (by kernel_rfl) (fun _ _ _ h => h) (Or.inr ⟨by rfl, rfl⟩) (by assumption) ?_
                (try simp only [Act.put, List.setIfInBounds_toArray, List.set_cons_zero, List.set_cons_succ])
                refine wpAnyH_take (i := 11) (v := undef) (by simp only [List.getElem?_toArray, List.getElem?_cons_succ, List.getElem?_cons_zero]; rfl) (by kernel_rfl) (by kernel_rfl) (by kernel_rfl) (fun _ _ _ h => h) (Or.inr ⟨by rfl, rfl⟩) (by assumption) ?_
                (try simp only [Act.put, List.setIfInBounds_toArray, List.set_cons_zero, List.set_cons_succ])
                refine wpAnyH_take (i := 12) (v := undef) (by simp only [List.getElem?_toArray, List.getElem?_cons_succ, List.getElem?_cons_zero]; rfl) (by kernel_rfl) (by kernel_rfl) (by kernel_rfl) (fun _ _ _ h => h) (Or.inr ⟨by rfl, rfl⟩) (by assumption) ?_
                (try simp only [Act.put, List.setIfInBounds_toArray, List.set_cons_zero, List.set_cons_succ])
                refine wpAnyH_take (i := 13) (v := undef) (by simp only [List.getElem?_toArray, List.getElem?_cons_succ, List.getElem?_cons_zero]; rfl) (by kernel_rfl) (by kernel_rfl) (by kernel_rfl) (fun _ _ _ h => h) (Or.inr ⟨by rfl, rfl⟩) (by assumption) ?_
                (try simp only [Act.put, List.setIfInBounds_toArray, List.set_cons_zero, List.set_cons_succ])
                refine wpAnyH_take (i := 14) (v := undef) (by simp only [List.getElem?_toArray, List.getElem?_cons_succ, List.getElem?_cons_zero]; rfl) (by kernel_rfl) (by kernel_rfl) (by kernel_rfl) (fun _ _ _ h => h) (Or.inr ⟨by rfl, rfl⟩) (by assumption) ?_
                (try simp only [Act.put, List.setIfInBounds_toArray, List.set_cons_zero, List.set_cons_succ])
                refine wpAnyH_take (i := 15) (v := undef) (by simp only [List.getElem?_toArray, List.getElem?_cons_succ, List.getElem?_cons_zero]; rfl) (by kernel_rfl) (by kernel_rfl) (by kernel_rfl) (fun _ _ _ h => h) (Or.inr ⟨by rfl, rfl⟩) (by assumption) ?_
                (try simp only [Act.put, List.setIfInBounds_toArray, List.set_cons_zero, List.set_cons_succ])
                refine wpAnyH_take (i := 16) (v := ?_) (by simp only [List.getElem?_toArray, List.getElem?_cons_succ, List.getElem?_cons_zero]; rfl) (by kernel_rfl) (by kernel_rfl) (by kernel_rfl) (fun _ _ _ h => h) (Or.inl ⟨by rfl, ?_⟩) (by assumption) ?_
                rotate_left
                · (intro w hSw; (try dsimp only at hSw); go_simp; (try with_reducible rfl))
                (try simp only [Act.put, List.setIfInBounds_toArray, List.set_cons_zero, List.set_cons_succ])
                refine wpAnyH_done (by kernel_rfl) ?_ _
                refine NoPanic.normal ?_
                clear hHeld
                have hwd : Below w6.heap.size w6 w6.drew := (Below.refl _ _).drew
                generalize w6.drew = w7 at *
                have HB7 := Lib.hid hwd
                clear hwd
                have HO7 := Lib.hid (HO6.out.below HB7.out)
                have HY7 := Lib.hid (HY6.out.keep (HB7.out.block _ hs6))
                have HB57 := Lib.hid (HB56.out.trans (HB7.out.mono hs62))
                have hs72 : B ≤ w7.heap.size := by have := HB57.out.size; omega
                have y0 := HY7.out.c0
                have y1 := HY7.out.c1
                have y2 := HY7.out.c2
                have y3 := HY7.out.c3
                go_upto_region 17 with fail
                go_wp2_with fail
                refine (HADD.out ck HADR.out _ HB57.out).mono ?_
                rintro e w8 ⟨v8, rfl, T8, t8, o8⟩
                have hB8 : Below B w7 w8 := HO7.out.ta.feet t8 hs72
                have HO8 := Lib.hid (HO7.out.no (by rw [HADR.out]; exact hc0) T8 t8 o8)
                have HB8 := Lib.hid (HW.out.trans ((HB57.out.mono hBs).trans hB8))
                clear T8 t8 o8 hB8 y0 y1 y2 y3
                go_wp2
                go_roundg (n - (i + 1))
                case measure => omega
                case rel => exact ⟨i + 1, M, _, _, by omega, by go_num, Nat.le_refl _, by rw [HMl.out], rfl, HO8, HB8⟩
          · have ham : m ≤ a := by omega
            have HPOS : Hid (pos cmpE M y = a) := Lib.hid (pos_eq cmpE M y a (by have := HMl.out; omega) HIa.out (fun z' hz' => by have := (List.getElem?_eq_some_iff.1 hz').1; have := HMl.out; omega))
            have HHIT : Hid (hit cmpE M y = false) := Lib.hid (by unfold hit; rw [HPOS.out, List.getElem?_eq_none (by have := HMl.out; omega)])
            have hd : decide ((a : Int) < (m : Int)) = false := by simp; omega
            have hd2 : decide (a < m) = false := by simp; omega
            clear ham hlt2
            go_upto_region 13 with fail
            refine wp_region_noPanic ?_
            refine wp_region_held_drew (S := (fun wx => True)) (by kernel_rfl) (trivial) (fun hHeld => ?_)
            refine wpAnyH_take (i := 0) (v := ?_) (by simp only [List.getElem?_toArray, List.getElem?_cons_succ, List.getElem?_cons_zero]; rfl) (by kernel_rfl) (by kernel_rfl) (by kernel_rfl) (fun _ _ _ h => h) (Or.inl ⟨by rfl, ?_⟩) (by assumption) ?_
            rotate_left
            · (intro w hSw; (try dsimp only at hSw); go_simp; (try with_reducible rfl))
            (try simp only [Act.put, List.setIfInBounds_toArray, List.set_cons_zero, List.set_cons_succ])
            refine wpAnyH_take (i := 1) (v := ?_) (by simp only [List.getElem?_toArray, List.getElem?_cons_succ, List.getElem?_cons_zero]; rfl) (by kernel_rfl) (by kernel_rfl) (by kernel_rfl) (fun _ _ _ h => h) (Or.inl ⟨by rfl, ?_⟩) (by assumption) ?_
            rotate_left
            · (intro w hSw; (try dsimp only at hSw); go_simp; (try with_reducible rfl))
            (try simp only [Act.put, List.setIfInBounds_toArray, List.set_cons_zero, List.set_cons_succ])
            refine wpAnyH_take (i := 2) (v := ?_) (by simp only [List.getElem?_toArray, List.getElem?_cons_succ, List.getElem?_cons_zero]; rfl) (by kernel_rfl) (by kernel_rfl) (by kernel_rfl) (fun _ _ _ h => h) (Or.inl ⟨by rfl, ?_⟩) (by assumption) ?_
            rotate_left
            · (intro w hSw; (try dsimp only at hSw); go_simp; (try with_reducible rfl))
            (try simp only [Act.put, List.setIfInBounds_toArray, List.set_cons_zero, List.set_cons_succ])
            refine wpAnyH_take (i := 3) (v := ?_) (by simp only [List.getElem?_toArray, List.getElem?_cons_succ, List.getElem?_cons_zero]; rfl) (by kernel_rfl) (by kernel_rfl) (by kernel_rfl) (fun _ _ _ h => h) (Or.inl ⟨by rfl, ?_⟩) (by assumption) ?_
            rotate_left
            · (intro w hSw; (try dsimp only at hSw); go_simp; (try with_reducible rfl))
            (try simp only [Act.put, List.setIfInBounds_toArray, List.set_cons_zero, List.set_cons_succ])
            refine wpAnyH_take (i := 4) (v := ?_) (by simp only [List.getElem?_toArray, List.getElem?_cons_succ, List.getElem?_cons_zero]; rfl) (by kernel_rfl) (by kernel_rfl) (by kernel_rfl) (fun _ _ _ h => h) (Or.inl ⟨by rfl, ?_⟩) (by assumption) ?_
            rotate_left
            · (intro w hSw; (try dsimp only at hSw); go_simp; (try with_reducible rfl))
            (try simp only [Act.put, List.setIfInBounds_toArray, List.set_cons_zero, List.set_cons_succ])
            refine wpAnyH_take (i := 5) (v := undef) (by simp only [List.getElem?_toArray, List.getElem?_cons_succ, List.getElem?_cons_zero]; rfl) (by kernel_rfl) (by kernel_rfl) (by kernel_rfl) (fun _ _ _ h => h) (Or.inr ⟨by rfl, rfl⟩) (by assumption) ?_
            (try simp only [Act.put, List.setIfInBounds_toArray, List.set_cons_zero, List.set_cons_succ])
            refine wpAnyH_take (i := 6) (v := undef) (by simp only [List.getElem?_toArray, List.getElem?_cons_succ, List.getElem?_cons_zero]; rfl) (by kernel_rfl) (by kernel_rfl) (by kernel_rfl) (fun _ _ _ h => h) (Or.inr ⟨by rfl, rfl⟩) (by assumption) ?_
            (try simp only [Act.put, List.setIfInBounds_toArray, List.set_cons_zero, List.set_cons_succ])
            refine wpAnyH_take (i := 7) (v := undef) (by simp only [List.getElem?_toArray, List.getElem?_cons_succ, List.getElem?_cons_zero]; rfl) (by kernel_rfl) (by kernel_rfl) (by kernel_rfl) (fun _ _ _ h => h) (Or.inr ⟨by rfl, rfl⟩) (by assumption) ?_
            (try simp only [Act.put, List.setIfInBounds_toArray, List.set_cons_zero, List.set_cons_succ])
            refine wpAnyH_take (i := 8) (v := undef) (by simp only [List.getElem?_toArray, List.getElem?_cons_succ, List.getElem?_cons_zero]; rfl) (by kernel_rfl) (by kernel_rfl) (by kernel_rfl) (fun _ _ _ h => h) (Or.inr ⟨by rfl, rfl⟩) (by assumption) ?_
            (try simp only [Act.put, List.setIfInBounds_toArray, List.set_cons_zero, List.set_cons_succ])
            refine wpAnyH_take (i := 9) (v := undef) (by simp only [List.getElem?_toArray, List.getElem?_cons_succ, List.getElem?_cons_zero]; rfl) (by kernel_rfl) (by kernel_rfl) (by kernel_rfl) (fun _ _ _ h => h) (Or.inr ⟨by rfl, rfl⟩) (by assumption) ?_
            (try simp only [Act.put, List.setIfInBounds_toArray, List.set_cons_zero, List.set_cons_succ])
            refine wpAnyH_take (i := 10) (v := undef) (by simp only [List.getElem?_toArray, List.getElem?_cons_succ, List.getElem?_cons_zero]; rfl) (by kernel_rfl) (by kernel_rfl) (by kernel_rfl) (fun _ _ _ h => h) (Or.inr ⟨by rfl, rfl⟩) (by assumption) ?_
            (try simp only [Act.put, List.setIfInBounds_toArray, List.set_cons_zero, List.set_cons_succ])
            refine wpAnyH_take (i := 11) (v := undef) (by simp only [List.getElem?_toArray, List.getElem?_cons_succ, List.getElem?_cons_zero]; rfl) (by kernel_rfl) (by kernel_rfl) (by kernel_rfl) (fun _ _ _ h => h) (Or.inr ⟨by rfl, rfl⟩) (by assumption) ?_
            (try simp only [Act.put, List.setIfInBounds_toArray, List.set_cons_zero, List.set_cons_succ])
            refine wpAnyH_take (i := 12) (v := ?_) (by simp only [List.getElem?_toArray, List.getElem?_cons_succ, List.getElem?_cons_zero]; rfl) (by kernel_rfl) (by kernel_rfl) (by kernel_rfl) (fun _ _ _ h => h) (Or.inl ⟨by rfl, ?_⟩) (by assumption) ?_
            rotate_left
            · (intro w hSw; (try dsimp only at hSw); go_simp; (try with_reducible rfl))
            (try simp only [Act.put, List.setIfInBounds_toArray, List.set_cons_zero, List.set_cons_succ])
            refine wpAnyH_done (by kernel_rfl) ?_ _
            refine NoPanic.normal ?_
            clear hHeld
            have hwd : Below wr.heap.size wr wr.drew := (Below.refl _ _).drew
            generalize wr.drew = w6 at *
            have HB6 := Lib.hid hwd
            clear hwd
            have HO6 := Lib.hid (HOr.out.below HB6.out)
            have HY6 := Lib.hid (HYr.out.keep (HB6.out.block _ hsr))
            have hs6 : gq < w6.heap.size := HY6.out.lt
            have hs62 : wo.heap.size ≤ w6.heap.size := Nat.le_trans hsr2 HB6.out.size
            have HB56 := Lib.hid ((HB5.out.trans (HWa.out.mono hs5r)).trans (HB6.out.mono hsr2))
            go_upto_region 15 with fail
            by_cases hc0 : ck = 0
            · subst hc0
              have HADR : Hid (addR M y = 0) := Lib.hid (by unfold addR; rw [if_pos HCK.out.symm, HHIT.out]; rfl)
              refine wp_region_noPanic ?_
              refine wp_region_held_drew (S := (fun wx => True)) (by kernel_rfl) (trivial) (fun hHeld => ?_)
              refine wpAnyH_take (i := 0) (v := ?_) (by simp only [List.getElem?_toArray, List.getElem?_cons_succ, List.getElem?_cons_zero]; rfl) (by kernel_rfl) (by kernel_rfl) (by kernel_rfl) (fun _ _ _ h => h) (Or.inl ⟨by rfl, ?_⟩) (by assumption) ?_
              rotate_left
              · (intro w hSw; (try dsimp only at hSw); go_simp; (try with_reducible rfl))
              (try simp only [Act.put, List.setIfInBounds_toArray, List.set_cons_zero, List.set_cons_succ])
              refine wpAnyH_take (i := 1) (v := ?_) (by simp only [List.getElem?_toArray, List.getElem?_cons_succ, List.getElem?_cons_zero]; rfl) (by kernel_rfl) (by kernel_rfl) (by kernel_rfl) (fun _ _ _ h => h) (Or.inl ⟨by rfl, ?_⟩) (by assumption) ?_
              rotate_left
              · (intro w hSw; (try dsimp only at hSw); go_simp; (try with_reducible rfl))
              (try simp only [Act.put, List.setIfInBounds_toArray, List.set_cons_zero, List.set_cons_succ])
              refine wpAnyH_take (i := 2) (v := ?_) (by simp only [List.getElem?_toArray, List.getElem?_cons_succ, List.getElem?_cons_zero]; rfl) (by kernel_rfl) (by kernel_rfl) (by kernel_rfl) (fun _ _ _ h => h) (Or.inl ⟨by rfl, ?_⟩) (by assumption) ?_
              rotate_left
              · (intro w hSw; (try dsimp only at hSw); go_simp; (try with_reducible rfl))
              (try simp only [Act.put, List.setIfInBounds_toArray, List.set_cons_zero, List.set_cons_succ])
              refine wpAnyH_take (i := 3) (v := ?_) (by simp only [List.getElem?_toArray, List.getElem?_cons_succ, List.getElem?_cons_zero]; rfl) (by kernel_rfl) (by kernel_rfl) (by kernel_rfl) (fun _ _ _ h => h) (Or.inl ⟨by rfl, ?_⟩) (by assumption) ?_
              rotate_left
              · (intro w hSw; (try dsimp only at hSw); go_simp; (try with_reducible rfl))
              (try simp only [Act.put, List.setIfInBounds_toArray, List.set_cons_zero, List.set_cons_succ])
              refine wpAnyH_take (i := 4) (v := ?_) (by simp only [List.getElem?_toArray, List.getElem?_cons_succ, List.getElem?_cons_zero]; rfl) (by kernel_rfl) (by kernel_rfl) (by kernel_rfl) (fun _ _ _ h => h) (Or.inl ⟨by rfl, ?_⟩) (by assumption) ?_
              rotate_left
              · (intro w hSw; (try dsimp only at hSw); go_simp; (try with_reducible rfl))
              (try simp only [Act.put, List.setIfInBounds_toArray, List.set_cons_zero, List.set_cons_succ])
              refine wpAnyH_take (i := 5) (v := ?_) (by simp only [List.getElem?_toArray, List.getElem?_cons_succ, List.getElem?_cons_zero]; rfl) (by kernel_rfl) (by kernel_rfl) (by kernel_rfl) (fun _ _ _ h => h) (Or.inl ⟨by rfl, ?_⟩) (by assumption) ?_
              rotate_left
              · (intro w hSw; (try dsimp only at hSw); go_simp; (try with_reducible rfl))
              (try simp only [Act.put, List.setIfInBounds_toArray, List.set_cons_zero, List.set_cons_succ])
              refine wpAnyH_take (i := 6) (v := ?_) (by simp only [List.getElem?_toArray, List.getElem?_cons_succ, List.getElem?_cons_zero]; rfl) (by kernel_rfl) (by kernel_rfl) (by kernel_rfl) (fun _ _ _ h => h) (Or.inl ⟨by rfl, ?_⟩) (by assumption) ?_
              rotate_left
              · (intro w hSw; (try dsimp only at hSw); go_simp; (try with_reducible rfl))
              (try simp only [Act.put, List.setIfInBounds_toArray, List.set_cons_zero, List.set_cons_succ])
              refine wpAnyH_take (i := 7) (v := ?_) (by simp only [List.getElem?_toArray, List.getElem?_cons_succ, List.getElem?_cons_zero]; rfl) (by kernel_rfl) (by kernel_rfl) (by kernel_rfl) (fun _ _ _ h => h) (Or.inl ⟨by rfl, ?_⟩) (by assumption) ?_
              rotate_left
              · (intro w hSw; (try dsimp only at hSw); go_simp; (try with_reducible rfl))
              (try simp only [Act.put, List.setIfInBounds_toArray, List.set_cons_zero, List.set_cons_succ])
              refine wpAnyH_take (i := 8) (v := ?_) (by simp only [List.getElem?_toArray, List.getElem?_cons_succ, List.getElem?_cons_zero]; rfl) (by kernel_rfl) (by kernel_rfl) (by kernel_rfl) (fun _ _ _ h => h) (Or.inl ⟨by rfl, ?_⟩) (by assumption) ?_
              rotate_left
              · (intro w hSw; (try dsimp only at hSw); go_simp; (try with_reducible rfl))
              (try simp only [Act.put, List.setIfInBounds_toArray, List.set_cons_zero, List.set_cons_succ])
              refine wpAnyH_take (i := 9) (v := undef) (by simp only [List.getElem?_toArray, List.getElem?_cons_succ, List.getElem?_cons_zero]; rfl) (by kernel_rfl) (by kernel_rfl) (by kernel_rfl) (fun _ _ _ h => h) (Or.inr ⟨by rfl, rfl⟩) (by assumption) ?_
              (try simp only [Act.put, List.setIfInBounds_toArray, List.set_cons_zero, List.set_cons_succ])
              refine wpAnyH_take (i := 10) (v := undef) (by simp only [List.getElem?_toArray, List.getElem?_cons_succ, List.getElem?_cons_zero]; rfl) (by kernel_rfl) (by kernel_rfl) (by kernel_rfl) (fun _ _ _ h => h) (Or.inr ⟨by rfl, rfl⟩) (by assumption) ?_
              (try simp only [Act.put, List.setIfInBounds_toArray, List.set_cons_zero, List.set_cons_succ])
              refine wpAnyH_take (i := 11) (v := undef) (by simp only [List.getElem?_toArray, List.getElem?_cons_succ, List.getElem?_cons_zero]; rfl) (by kernel_rfl) (by kernel_rfl) (by kernel_rfl) (fun _ _ _ h => h) (Or.inr ⟨by rfl, rfl⟩) (by assumption) ?_
              (try simp only [Act.put, List.setIfInBounds_toArray, List.set_cons_zero, List.set_cons_succ])
              refine wpAnyH_take (i := 12) (v := undef) (by simp only [List.getElem?_toArray, List.getElem?_cons_succ, List.getElem?_cons_zero]; rfl) (by kernel_rfl) (by kernel_rfl) (by kernel_rfl) (fun _ _ _ h => h) (Or.inr ⟨by rfl, rfl⟩) (by assumption) ?_
              (try simp only [Act.put, List.setIfInBounds_toArray, List.set_cons_zero, List.set_cons_succ])
              refine wpAnyH_take (i := 13) (v := undef) (by simp only [List.getElem?_toArray, List.getElem?_cons_succ, List.getElem?_cons_zero]; rfl) (by kernel_rfl) (by kernel_rfl) (by kernel_rfl) (fun _ _ _ h => h) (Or.inr ⟨by rfl, rfl⟩) (by assumption) ?_
              (try simp only [Act.put, List.setIfInBounds_toArray, List.set_cons_zero, List.set_cons_succ])
              refine wpAnyH_take (i := 14) (v := undef) (by simp only [List.getElem?_toArray, List.getElem?_cons_succ, List.getElem?_cons_zero]; rfl) (by kernel_rfl) (by kernel_rfl) (by kernel_rfl) (fun _ _ _ h => h) (Or.inr ⟨by rfl, rfl⟩) (by assumption) ?_
              (try simp only [Act.put, List.setIfInBounds_toArray, List.set_cons_zero, List.set_cons_succ])
              refine wpAnyH_take (i := 15) (v := undef) (by simp only [List.getElem?_toArray, List.getElem?_cons_succ, List.getElem?_cons_zero]; rfl) (by kernel_rfl) (by kernel_rfl) (by kernel_rfl) (fun _ _ _ h => h) (Or.inr ⟨by rfl, rfl⟩) (by assumption) ?_
              (try simp only [Act.put, List.setIfInBounds_toArray, List.set_cons_zero, List.set_cons_succ])
              refine wpAnyH_take (i := 16) (v := ?_) (by simp only [List.getElem?_toArray, List.getElem?_cons_succ, List.getElem?_cons_zero]; rfl) (by kernel_rfl) (by kernel_rfl) (by kernel_rfl) (fun _ _ _ h => h) (Or.inl ⟨by rfl, ?_⟩) (by assumption) ?_
              rotate_left
              · (intro w hSw; (try dsimp only at hSw); go_simp; (try with_reducible rfl))
              (try simp only [Act.put, List.setIfInBounds_toArray, List.set_cons_zero, List.set_cons_succ])
              refine wpAnyH_done (by kernel_rfl) ?_ _
              refine NoPanic.normal ?_
              clear hHeld
              have hwd : Below w6.heap.size w6 w6.drew := (Below.refl _ _).drew
              generalize w6.drew = w7 at *
              have HB7 := Lib.hid hwd
              clear hwd
              have HO7 := Lib.hid (HO6.out.below HB7.out)
              have HY7 := Lib.hid (HY6.out.keep (HB7.out.block _ hs6))
              have HB57 := Lib.hid (HB56.out.trans (HB7.out.mono hs62))
              have hs72 : B ≤ w7.heap.size := by have := HB57.out.size; omega
              have y0 := HY7.out.c0
              have y1 := HY7.out.c1
              have y2 := HY7.out.c2
              have y3 := HY7.out.c3
              go_upto_region 17 with fail
              go_wp2_with fail
              refine (HADD.out 0 HADR.out _ HB57.out).mono ?_
              rintro e w8 ⟨v8, rfl, T8, t8, o8⟩
              have hB8 : Below B w7 w8 := HO7.out.ta.feet t8 hs72
              have R8 := own_tch HO7.out.row (show Tch w7 w8 (ft (B + 1) B va) from t8) HO7.out.ai.symm
              have Y8 := HY7.out.keep (t8.block gq HY7.out.lt HNF.out)
              obtain ⟨A8, c8, e8, hc8, hcm8, hrd8⟩ := own_rdN R8
              injection e8 with e81 e82 e83
              rw [← e81] at hrd8
              rw [← e83] at hc8
              obtain ⟨v10, w10, v12, w12, v13, w13, r10, rb, r12, r13, o13, b10, b13⟩ := row3 w8 Ai ci a M y hrd8 (by have := HMl.out; omega) hc8 (by have := HMl.out; omega)
              have hs8 : B ≤ w8.heap.size := Nat.le_trans hs72 t8.size
              have o13' : OwnE w13 w8.heap.size v13 (M.take (pos cmpE M y) ++ y :: M.drop (pos cmpE M y)) := by rw [HPOS.out]; exact o13
              have HO13 := Lib.hid (HO7.out.put HADR.out T8 hs8 o13' b13)
              have HB13 := Lib.hid ((HW.out.trans ((HB57.out.mono hBs).trans hB8)).trans (b13.mono hs8))
              have Y10 := Y8.keep (b10.block gq Y8.lt)
              have Y13 := Y8.keep (b13.block gq Y8.lt)
              obtain ⟨ti, hti, hts, _⟩ := infoE
              have hsl := fun wx => run_sliceN_l (P := Try.prog) wx 35 42 ti 4 Try.underlying35 hti hts Ai m ci a (by omega) .i64 (a : Int) rfl
              have hsh := fun wx => run_sliceN_h (P := Try.prog) wx 35 42 ti 4 Try.underlying35 hti hts Ai m ci a (by omega) .i64 (a : Int) rfl
              rw [← HMl.out] at r13
              generalize (if ci = a then Ai else Ai.map (·.add (a * 4))) = A13 at hsl r13
              have k0 := Y10.c0
              have k1 := Y10.c1
              have k2 := Y10.c2
              have k3 := Y10.c3
              have q0 := Y13.c0
              have q3 := Y13.c3
              have hq := chkE_0 y (addL_ok M y HADR.out).2.1
              have hk1 : (y.k.size : Int) ≤ 128 := by have := hq.1; omega
              have hk2 : (y.v.size : Int) ≤ 65536 := by have := hq.2.1; omega
              have HSZ := Lib.hid (szE_ins M y)
              have HIL := Lib.hid (ins_length cmpE M y)
              have HR10 := Lib.hid r10
              have HRB := Lib.hid rb
              have HR12 := Lib.hid r12
              have HR13 := Lib.hid r13
              clear T8 t8 o8 hB8 R8 Y8 e81 e82 e83 hc8 hcm8 hrd8 r10 rb r12 r13 o13 o13' b10 b13 Y10 Y13 hti hts hq y0 y1 y2 y3
              go_upto_region 20 with fail
              go_upto_region 21 with (at_builtin; refine wpList_appz rfl (.tmp 70) (.tmp 73) 35 35 rfl rfl rfl (HR10.out _) ?_)
              go_upto_region 22 with (first
                | (refine arm_build1 35 (.tmp 76) (v' := ?_) (w' := ?_) ?hb1 ?_; case hb1 => exact HRB.out _ rfl)
                | (at_builtin; refine wpList_appz rfl (.tmp 75) (.tmp 77) 35 35 rfl rfl rfl (HR12.out _) ?_))
              go_upto_region 23 with (at_builtin; refine wpList_appz rfl (.tmp 79) (.tmp 82) 35 35 rfl rfl rfl (HR13.out _) ?_)
              clear HR13
              go_wp2
              go_roundg (n - (i + 1))
              case measure => omega
              case rel =>
                refine ⟨i + 1, ins cmpE M y, _, _, by omega, by go_num, Nat.le_refl _, rfl, ?_, HO13, HB13⟩
                rw [HSZ.out]
                go_num
            · have HADR : Hid (addR M y = ck) := Lib.hid (by unfold addR; rw [if_neg (by rw [← HCK.out]; exact hc0), ← HCK.out])
              have hc2 : (ck == 0) = false := by simpa using hc0
              refine wp_region_noPanic ?_
              refine wp_region_held_drew (S := (fun wx => True)) (by kernel_rfl) (trivial) (fun hHeld => ?_)
              refine wpAnyH_take (i := 0) (v := ?_) (by simp only [List.getElem?_toArray, List.getElem?_cons_succ, List.getElem?_cons_zero]; rfl) (by kernel_rfl) (by kernel_rfl) (by kernel_rfl) (fun _ _ _ h => h) (Or.inl ⟨by rfl, ?_⟩) (by assumption) ?_
              rotate_left
              · (intro w hSw; (try dsimp only at hSw); go_simp; (try with_reducible rfl))
              (try simp only [Act.put, List.setIfInBounds_toArray, List.set_cons_zero, List.set_cons_succ])
              refine wpAnyH_take (i := 1) (v := ?_) (by simp only [List.getElem?_toArray, List.getElem?_cons_succ, List.getElem?_cons_zero]; rfl) (by kernel_rfl) (by kernel_rfl) (by kernel_rfl) (fun _ _ _ h => h) (Or.inl ⟨by rfl, ?_⟩) (by assumption) ?_
              rotate_left
              · (intro w hSw; (try dsimp only at hSw); go_simp; (try with_reducible rfl))
              (try simp only [Act.put, List.setIfInBounds_toArray, List.set_cons_zero, List.set_cons_succ])
              refine wpAnyH_take (i := 2) (v := ?_) (by simp only [List.getElem?_toArray, List.getElem?_cons_succ, List.getElem?_cons_zero]; rfl) (by kernel_rfl) (by kernel_rfl) (by kernel_rfl) (fun _ _ _ h => h) (Or.inl ⟨by rfl, ?_⟩) (by assumption) ?_
              rotate_left
              · (intro w hSw; (try dsimp only at hSw); go_simp; (try with_reducible rfl))
              (try simp only [Act.put, List.setIfInBounds_toArray, List.set_cons_zero, List.set_cons_succ])
              refine wpAnyH_take (i := 3) (v := undef) (by simp only [List.getElem?_toArray, List.getElem?_cons_succ, List.getElem?_cons_zero]; rfl) (by kernel_rfl) (by kernel_rfl) (by kernel_rfl) (fun _ _ _ h => h) (Or.inr ⟨by rfl, rfl⟩) (by assumption) ?_
              (try simp only [Act.put, List.setIfInBounds_toArray, List.set_cons_zero, List.set_cons_succ])
              refine wpAnyH_take (i := 4) (v := undef) (by simp only [List.getElem?_toArray, List.getElem?_cons_succ, List.getElem?_cons_zero]; rfl) (by kernel_rfl) (by kernel_rfl) (by kernel_rfl) (fun _ _ _ h => h) (Or.inr ⟨by rfl, rfl⟩) (by assumption) ?_
              (try simp only [Act.put, List.setIfInBounds_toArray, List.set_cons_zero, List.set_cons_succ])
              refine wpAnyH_take (i := 5) (v := undef) (by simp only [List.getElem?_toArray, List.getElem?_cons_succ, List.getElem?_cons_zero]; rfl) (by kernel_rfl) (by kernel_rfl) (by kernel_rfl) (fun _ _ _ h => h) (Or.inr ⟨by rfl, rfl⟩) (by assumption) ?_
              (try simp only [Act.put, List.setIfInBounds_toArray, List.set_cons_zero, List.set_cons_succ])
              refine wpAnyH_take (i := 6) (v := undef) (by simp only [List.getElem?_toArray, List.getElem?_cons_succ, List.getElem?_cons_zero]; rfl) (by kernel_rfl) (by kernel_rfl) (by kernel_rfl) (fun _ _ _ h => h) (Or.inr ⟨by rfl, rfl⟩) (by assumption) ?_
              (try simp only [Act.put, List.setIfInBounds_toArray, List.set_cons_zero, List.set_cons_succ])
              refine wpAnyH_take (i := 7) (v := ?_) (by simp only [List.getElem?_toArray, List.getElem?_cons_succ, List.getElem?_cons_zero]; rfl) (by kernel_rfl) (by kernel_rfl) (by kernel_rfl) (fun _ _ _ h => h) (Or.inl ⟨by rfl, ?_⟩) (by assumption) ?_
              rotate_left
              · (intro w hSw; (try dsimp only at hSw); go_simp; (try with_reducible rfl))
              (try simp only [Act.put, List.setIfInBounds_toArray, List.set_cons_zero, List.set_cons_succ])
              refine wpAnyH_take (i := 8) (v := ?_) (by simp only [List.getElem?_toArray, List.getElem?_cons_succ, List.getElem?_cons_zero]; rfl) (by kernel_rfl) (by kernel_rfl) (by kernel_rfl) (fun _ _ _ h => h) (Or.inl ⟨by rfl, ?_⟩) (by assumption) ?_
              rotate_left
              · (intro w hSw; (try dsimp only at hSw); go_simp; (try with_reducible rfl))
              (try simp only [Act.put, List.setIfInBounds_toArray, List.set_cons_zero, List.set_cons_succ])
              refine wpAnyH_take (i := 9) (v := undef) (by simp only [List.getElem?_toArray, List.getElem?_cons_succ, List.getElem?_cons_zero]; rfl) (by kernel_rfl) (by kernel_rfl) (by kernel_rfl) (fun _ _ _ h => h) (Or.inr ⟨by rfl, rfl⟩) (by assumption) ?_
              (try simp only [Act.put, List.setIfInBounds_toArray, List.set_cons_zero, List.set_cons_succ])
              refine wpAnyH_take (i := 10) (v := undef) (by simp only [List.getElem?_toArray, List.getElem?_cons_succ, List.getElem?_cons_zero]; rfl) (by kernel_rfl) (by kernel_rfl) (by kernel_rfl) (fun _ _ _ h => h) (Or.inr ⟨by rfl, rfl⟩) (by assumption) ?_
              (try simp only [Act.put, List.setIfInBounds_toArray, List.set_cons_zero, List.set_cons_succ])
              refine wpAnyH_take (i := 11) (v := undef) (by simp only [List.getElem?_toArray, List.getElem?_cons_succ, List.getElem?_cons_zero]; rfl) (by kernel_rfl) (by kernel_rfl) (by kernel_rfl) (fun _ _ _ h => h) (Or.inr ⟨by rfl, rfl⟩) (by assumption) ?_
              (try simp only [Act.put, List.setIfInBounds_toArray, List.set_cons_zero, List.set_cons_succ])
              refine wpAnyH_take (i := 12) (v := undef) (by simp only [List.getElem?_toArray, List.getElem?_cons_succ, List.getElem?_cons_zero]; rfl) (by kernel_rfl) (by kernel_rfl) (by kernel_rfl) (fun _ _ _ h => h) (Or.inr ⟨by rfl, rfl⟩) (by assumption) ?_
              (try simp only [Act.put, List.setIfInBounds_toArray, List.set_cons_zero, List.set_cons_succ])
              refine wpAnyH_take (i := 13) (v := undef) (by simp only [List.getElem?_toArray, List.getElem?_cons_succ, List.getElem?_cons_zero]; rfl) (by kernel_rfl) (by kernel_rfl) (by kernel_rfl) (fun _ _ _ h => h) (Or.inr ⟨by rfl, rfl⟩) (by assumption) ?_
              (try simp only [Act.put, List.setIfInBounds_toArray, List.set_cons_zero, List.set_cons_succ])
              refine wpAnyH_take (i := 14) (v := undef) (by simp only [List.getElem?_toArray, List.getElem?_cons_succ, List.getElem?_cons_zero]; rfl) (by kernel_rfl) (by kernel_rfl) (by kernel_rfl) (fun _ _ _ h => h) (Or.inr ⟨by rfl, rfl⟩) (by assumption) ?_
              (try simp only [Act.put, List.setIfInBounds_toArray, List.set_cons_zero, List.set_cons_succ])
              refine wpAnyH_take (i := 15) (v := undef) (by simp only [List.getElem?_toArray, List.getElem?_cons_succ, List.getElem?_cons_zero]; rfl) (by kernel_rfl) (by kernel_rfl) (by kernel_rfl) (fun _ _ _ h => h) (Or.inr ⟨by rfl, rfl⟩) (by assumption) ?_
              (try simp only [Act.put, List.setIfInBounds_toArray, List.set_cons_zero, List.set_cons_succ])
              refine wpAnyH_take (i := 16) (v := ?_) (by simp only [List.getElem?_toArray, List.getElem?_cons_succ, List.getElem?_cons_zero]; rfl) (by kernel_rfl) (by kernel_rfl) (by kernel_rfl) (fun _ _ _ h => h) (Or.inl ⟨by rfl, ?_⟩) (by assumption) ?_
              rotate_left
              · (intro w hSw; (try dsimp only at hSw); go_simp; (try with_reducible rfl))
              (try simp only [Act.put, List.setIfInBounds_toArray, List.set_cons_zero, List.set_cons_succ])
              refine wpAnyH_done (by kernel_rfl) ?_ _
              refine NoPanic.normal ?_
              clear hHeld
              have hwd : Below w6.heap.size w6 w6.drew := (Below.refl _ _).drew
              generalize w6.drew = w7 at *
              have HB7 := Lib.hid hwd
              clear hwd
              have HO7 := Lib.hid (HO6.out.below HB7.out)
              have HY7 := Lib.hid (HY6.out.keep (HB7.out.block _ hs6))
              have HB57 := Lib.hid (HB56.out.trans (HB7.out.mono hs62))
              have hs72 : B ≤ w7.heap.size := by have := HB57.out.size; omega
              have y0 := HY7.out.c0
              have y1 := HY7.out.c1
              have y2 := HY7.out.c2
              have y3 := HY7.out.c3
              go_upto_region 17 with fail
              go_wp2_with fail
              refine (HADD.out ck HADR.out _ HB57.out).mono ?_
              rintro e w8 ⟨v8, rfl, T8, t8, o8⟩
              have hB8 : Below B w7 w8 := HO7.out.ta.feet t8 hs72
              have HO8 := Lib.hid (HO7.out.no (by rw [HADR.out]; exact hc0) T8 t8 o8)
              have HB8 := Lib.hid (HW.out.trans ((HB57.out.mono hBs).trans hB8))
              clear T8 t8 o8 hB8 y0 y1 y2 y3
              go_wp2
              go_roundg (n - (i + 1))
              case measure => omega
              case rel => exact ⟨i + 1, M, _, _, by omega, by go_num, Nat.le_refl _, by rw [HMl.out], rfl, HO8, HB8⟩
      · have HBw := Lib.hid hBw
        have hbs : b ≤ wr.heap.size := by omega
        have HTa := Lib.hid HO.out.ta
        have HROW := Lib.hid HO.out.row
        have HSRT := Lib.hid HO.out.ta.sd.srt
        clear hBw
        go_upto_region 25 with fail
        go_wp2_with fail
        refine (all_any B _ _ _ M wr HTa.out (by have := HMl.out; omega)).mono ?_
        rintro e w7 ⟨v11, rfl, O7, hb7⟩
        obtain ⟨A11, c11, rfl, hn11, hc11, hr11⟩ := own_rdN O7
        have HR11 := Lib.hid hr11
        have HT7 := Lib.hid (HTa.out.below hb7)
        have ROW7 : OwnE w7 B (.slice Ai M.length ci) M := ownN_keep HROW.out (fun k hk => hb7.block k (HROW.out.lt k hk).2)
        obtain ⟨A', c', e', _, _, hr4⟩ := own_rdN ROW7
        injection e' with e1 e2 e3
        rw [← e1] at hr4
        have HR4 := Lib.hid hr4
        have HB7 := Lib.hid (HBw.out.trans (hb7.mono hbs))
        have hs7 : b ≤ w7.heap.size := Nat.le_trans hbs hb7.size
        have HL := Lib.hid (tlen_any B _ _ _ M w7 HT7.out (by have := HMl.out; omega))
        have HS := Lib.hid (tsize_any B _ _ _ M w7 HT7.out)
        rw [← HMl.out] at hn11 HL ⊢
        unfold maxLen at hc11
        clear O7 hb7 hr11 ROW7 e1 e2 e3 hr4
        generalize szE M = sM at *
        go_upto_region 29 with (first
          | (go_at_call 22; refine HL.out.mono ?_; rintro e w' ⟨rfl, rfl⟩)
          | (go_at_call 23; refine HS.out.mono ?_; rintro e w' ⟨rfl, rfl⟩))
        go_loopg [12, 13, 14, 117] m (fun kx s12 s13 s14 s117 wr => ∃ j : Nat, j ≤ m ∧ s117 = .int .i64 j ∧ m - j ≤ kx ∧ Hid (Below w7.heap.size w7 wr))
        case atStart => exact ⟨0, Nat.zero_le _, rfl, Nat.le_refl _, Lib.hid (Below.refl _ _)⟩
        case round =>
          obtain ⟨j, hj, rfl, hkj, HWj⟩ := hrel
          have HTr := Lib.hid (HT7.out.below HWj.out)
          have hsr : w7.heap.size ≤ wr.heap.size := HWj.out.size
          by_cases hlt3 : j < m
          · obtain ⟨y, hy⟩ : ∃ y, M[j]? = some y := ⟨_, List.getElem?_eq_getElem (by have := HMl.out; omega)⟩
            have hat : atE M (j : Int) = (y, true) := by unfold atE; rw [if_neg (by omega), Int.toNat_natCast, hy]
            have HAT := Lib.hid (tat_any B _ _ (j : Int) _ M wr HTr.out (by have := HMl.out; omega))
            rw [hat] at HAT
            have hps := pos_self HSRT.out hy
            have HFR := Lib.hid (fun W (hb : Below wr.heap.size wr W) => from_any B _ _ _ M y W (HTr.out.below hb) (by have := HMl.out; omega))
            rw [hps] at HFR
            have HY := Lib.hid hy
            clear hat hps hy
            go_upto_region 31 with fail
            go_wp2_with fail
            refine HAT.out.mono ?_
            rintro e w8 ⟨rfl, hb8⟩
            have HB8 := Lib.hid hb8
            clear hb8
            go_upto_region 32 with fail
            generalize hw9 : w8.alloc (.cells #[.string y.k, .int .u64 y.S, .bool y.d, .string y.v] 42) = w9
            have b9 : Below w8.heap.size w8 w9 := by rw [← hw9]; exact (Below.refl _ _).alloc (Nat.le_refl _) _
            have Y9 : Bx4 w9 w8.heap.size (.string y.k) (.int .u64 y.S) (.bool y.d) (.string y.v) := by rw [← hw9]; exact Bx4.new w8 _ _ _ _ _
            have B9 : Below wr.heap.size wr w9 := HB8.out.trans (b9.mono HB8.out.size)
            have B79 : Below w7.heap.size w7 w9 := HWj.out.trans (B9.mono hsr)
            obtain ⟨g, off, rfl, hgb, c0, c1, c2, c3⟩ := (HR11.out.below B79).ent j y HY.out
            obtain ⟨g', off', rfl, hgb', d0, d1, d2, d3⟩ := (HR4.out.below B79).ent j y HY.out
            have h79 := B79.size
            generalize w8.heap.size = g8 at *
            have hg8 : g8 < w9.heap.size := Y9.lt
            have HK : Hid (∀ wx, Below w9.heap.size w9 wx → (wx.cell? ⟨g, off + j * 4, none⟩ = some (.string y.k) ∧ wx.cell? ⟨g, off + j * 4 + 1, none⟩ = some (.int .u64 y.S) ∧ wx.cell? ⟨g, off + j * 4 + 2, none⟩ = some (.bool y.d) ∧ wx.cell? ⟨g, off + j * 4 + 3, none⟩ = some (.string y.v)) ∧ (wx.cell? ⟨g', off' + j * 4, none⟩ = some (.string y.k) ∧ wx.cell? ⟨g', off' + j * 4 + 1, none⟩ = some (.int .u64 y.S) ∧ wx.cell? ⟨g', off' + j * 4 + 2, none⟩ = some (.bool y.d) ∧ wx.cell? ⟨g', off' + j * 4 + 3, none⟩ = some (.string y.v)) ∧ (wx.cell? ⟨g8, 0, none⟩ = some (.string y.k) ∧ wx.cell? ⟨g8, 1, none⟩ = some (.int .u64 y.S) ∧ wx.cell? ⟨g8, 2, none⟩ = some (.bool y.d) ∧ wx.cell? ⟨g8, 3, none⟩ = some (.string y.v))) := Lib.hid fun wx hb => by
              have k := Y9.keep (hb.block _ hg8)
              exact ⟨⟨(hb.cell (p := ⟨g, _, none⟩) (by show g < _; omega)).trans c0, (hb.cell (p := ⟨g, _, none⟩) (by show g < _; omega)).trans c1, (hb.cell (p := ⟨g, _, none⟩) (by show g < _; omega)).trans c2, (hb.cell (p := ⟨g, _, none⟩) (by show g < _; omega)).trans c3⟩,
                ⟨(hb.cell (p := ⟨g', _, none⟩) (by show g' < _; omega)).trans d0, (hb.cell (p := ⟨g', _, none⟩) (by show g' < _; omega)).trans d1, (hb.cell (p := ⟨g', _, none⟩) (by show g' < _; omega)).trans d2, (hb.cell (p := ⟨g', _, none⟩) (by show g' < _; omega)).trans d3⟩, k.c0, k.c1, k.c2, k.c3⟩
            have HB9 := Lib.hid B9
            have HB79 := Lib.hid B79
            have hNY := fun W => neqE_same y W
            have hgu := guE
            clear hw9 b9 Y9 B9 B79 c0 c1 c2 c3 d0 d1 d2 d3
            refine wp_region_noPanic ?_
            refine wp_region_held_drew (S := (fun wx => Below w9.heap.size w9 wx ∧ (wx.cell? ⟨g, off + j * 4, none⟩ = some (.string y.k) ∧ wx.cell? ⟨g, off + j * 4 + 1, none⟩ = some (.int .u64 y.S) ∧ wx.cell? ⟨g, off + j * 4 + 2, none⟩ = some (.bool y.d) ∧ wx.cell? ⟨g, off + j * 4 + 3, none⟩ = some (.string y.v)) ∧ (wx.cell? ⟨g', off' + j * 4, none⟩ = some (.string y.k) ∧ wx.cell? ⟨g', off' + j * 4 + 1, none⟩ = some (.int .u64 y.S) ∧ wx.cell? ⟨g', off' + j * 4 + 2, none⟩ = some (.bool y.d) ∧ wx.cell? ⟨g', off' + j * 4 + 3, none⟩ = some (.string y.v)) ∧ (wx.cell? ⟨g8, 0, none⟩ = some (.string y.k) ∧ wx.cell? ⟨g8, 1, none⟩ = some (.int .u64 y.S) ∧ wx.cell? ⟨g8, 2, none⟩ = some (.bool y.d) ∧ wx.cell? ⟨g8, 3, none⟩ = some (.string y.v)))) (by kernel_rfl) (⟨(Below.refl _ _).drew, HK.out _ (Below.refl _ _).drew⟩) (fun hHeld => ?_)
            refine wpAnyH_take (i := 0) (v := ?_) (by simp only [List.getElem?_toArray, List.getElem?_cons_succ, List.getElem?_cons_zero]; rfl) (by kernel_rfl) (by kernel_rfl) (by kernel_rfl) (fun _ _ _ h => h) (Or.inl ⟨by rfl, ?_⟩) (by assumption) ?_
            rotate_left
            · (intro w hSw; (try dsimp only at hSw); go_simp; (try with_reducible rfl))
            (try simp only [Act.put, List.setIfInBounds_toArray, List.set_cons_zero, List.set_cons_succ])
            refine wpAnyH_take (i := 1) (v := ?_) (by simp only [List.getElem?_toArray, List.getElem?_cons_succ, List.getElem?_cons_zero]; rfl) (by kernel_rfl) (by kernel_rfl) (by kernel_rfl) (fun _ _ _ h => h) (Or.inl ⟨by rfl, ?_⟩) (by assumption) ?_
            rotate_left
            · (intro w hSw; (try dsimp only at hSw); go_simp; (try with_reducible rfl))
            (try simp only [Act.put, List.setIfInBounds_toArray, List.set_cons_zero, List.set_cons_succ])
            refine wpAnyH_take (i := 2) (v := ?_) (by simp only [List.getElem?_toArray, List.getElem?_cons_succ, List.getElem?_cons_zero]; rfl) (by kernel_rfl) (by kernel_rfl) (by kernel_rfl) (fun _ _ _ h => h) (Or.inl ⟨by rfl, ?_⟩) (by assumption) ?_
            rotate_left
            · (intro w hSw; (try dsimp only at hSw); go_simp; (try with_reducible rfl))
            (try simp only [Act.put, List.setIfInBounds_toArray, List.set_cons_zero, List.set_cons_succ])
            refine wpAnyH_take (i := 3) (v := ?_) (by simp only [List.getElem?_toArray, List.getElem?_cons_succ, List.getElem?_cons_zero]; rfl) (by kernel_rfl) (by kernel_rfl) (by kernel_rfl) (fun _ _ _ h => h) (Or.inl ⟨by rfl, ?_⟩) (by assumption) ?_
            rotate_left
            · (intro w hSw; (try dsimp only at hSw); go_simp; (try with_reducible rfl))
            (try simp only [Act.put, List.setIfInBounds_toArray, List.set_cons_zero, List.set_cons_succ])
            refine wpAnyH_take (i := 4) (v := ?_) (by simp only [List.getElem?_toArray, List.getElem?_cons_succ, List.getElem?_cons_zero]; rfl) (by kernel_rfl) (by kernel_rfl) (by kernel_rfl) (fun _ _ _ h => h) (Or.inl ⟨by rfl, ?_⟩) (by assumption) ?_
            rotate_left
            · (intro w hSw; (try dsimp only at hSw); go_simp; (try with_reducible rfl))
            (try simp only [Act.put, List.setIfInBounds_toArray, List.set_cons_zero, List.set_cons_succ])
            refine wpAnyH_take (i := 5) (v := ?_) (by simp only [List.getElem?_toArray, List.getElem?_cons_succ, List.getElem?_cons_zero]; rfl) (by kernel_rfl) (by kernel_rfl) (by kernel_rfl) (fun _ _ _ h => h) (Or.inl ⟨by rfl, ?_⟩) (by assumption) ?_
            rotate_left
            · (intro w hSw; (try dsimp only at hSw); go_simp; (try with_reducible rfl))
            (try simp only [Act.put, List.setIfInBounds_toArray, List.set_cons_zero, List.set_cons_succ])
            refine wpAnyH_take (i := 6) (v := ?_) (by simp only [List.getElem?_toArray, List.getElem?_cons_succ, List.getElem?_cons_zero]; rfl) (by kernel_rfl) (by kernel_rfl) (by kernel_rfl) (fun _ _ _ h => h) (Or.inl ⟨by rfl, ?_⟩) (by assumption) ?_
            rotate_left
            · (intro w hSw; (try dsimp only at hSw); go_simp; (try with_reducible rfl))
            (try simp only [Act.put, List.setIfInBounds_toArray, List.set_cons_zero, List.set_cons_succ])
            refine wpAnyH_take (i := 7) (v := ?_) (by simp only [List.getElem?_toArray, List.getElem?_cons_succ, List.getElem?_cons_zero]; rfl) (by kernel_rfl) (by kernel_rfl) (by kernel_rfl) (fun _ _ _ h => h) (Or.inl ⟨by rfl, ?_⟩) (by assumption) ?_
            rotate_left
            · (intro w hSw; (try dsimp only at hSw); go_simp; (try with_reducible rfl))
            (try simp only [Act.put, List.setIfInBounds_toArray, List.set_cons_zero, List.set_cons_succ])
            refine wpAnyH_take (i := 8) (v := ?_) (by simp only [List.getElem?_toArray, List.getElem?_cons_succ, List.getElem?_cons_zero]; rfl) (by kernel_rfl) (by kernel_rfl) (by kernel_rfl) (fun _ _ _ h => h) (Or.inl ⟨by rfl, ?_⟩) (by assumption) ?_
            rotate_left
            · (intro w hSw; (try dsimp only at hSw); go_simp; (try with_reducible rfl))
            (try simp only [Act.put, List.setIfInBounds_toArray, List.set_cons_zero, List.set_cons_succ])
            refine wpAnyH_take (i := 9) (v := ?_) (by simp only [List.getElem?_toArray, List.getElem?_cons_succ, List.getElem?_cons_zero]; rfl) (by kernel_rfl) (by kernel_rfl) (by kernel_rfl) (fun _ _ _ h => h) (Or.inl ⟨by rfl, ?_⟩) (by assumption) ?_
            rotate_left
            · (intro w hSw; (try dsimp only at hSw); go_simp; (try with_reducible rfl))
            (try simp only [Act.put, List.setIfInBounds_toArray, List.set_cons_zero, List.set_cons_succ])
            refine wpAnyH_take (i := 10) (v := ?_) (by simp only [List.getElem?_toArray, List.getElem?_cons_succ, List.getElem?_cons_zero]; rfl) (by kernel_rfl) (by kernel_rfl) (by kernel_rfl) (fun _ _ _ h => h) (Or.inl ⟨by rfl, ?_⟩) (by assumption) ?_
            rotate_left
            · (intro w hSw; (try dsimp only at hSw); go_simp; (try with_reducible rfl))
            (try simp only [Act.put, List.setIfInBounds_toArray, List.set_cons_zero, List.set_cons_succ])
            refine wpAnyH_take (i := 11) (v := ?_) (by simp only [List.getElem?_toArray, List.getElem?_cons_succ, List.getElem?_cons_zero]; rfl) (by kernel_rfl) (by kernel_rfl) (by kernel_rfl) (fun _ _ _ h => h) (Or.inl ⟨by rfl, ?_⟩) (by assumption) ?_
            rotate_left
            · (intro w hSw; (try dsimp only at hSw); go_simp; (try with_reducible rfl))
            (try simp only [Act.put, List.setIfInBounds_toArray, List.set_cons_zero, List.set_cons_succ])
            refine wpAnyH_take (i := 12) (v := ?_) (by simp only [List.getElem?_toArray, List.getElem?_cons_succ, List.getElem?_cons_zero]; rfl) (by kernel_rfl) (by kernel_rfl) (by kernel_rfl) (fun _ _ _ h => h) (Or.inl ⟨by rfl, ?_⟩) (by assumption) ?_
            rotate_left
            · (intro w hSw; (try dsimp only at hSw); go_simp; (try with_reducible rfl))
            (try simp only [Act.put, List.setIfInBounds_toArray, List.set_cons_zero, List.set_cons_succ])
            refine wpAnyH_take (i := 13) (v := ?_) (by simp only [List.getElem?_toArray, List.getElem?_cons_succ, List.getElem?_cons_zero]; rfl) (by kernel_rfl) (by kernel_rfl) (by kernel_rfl) (fun _ _ _ h => h) (Or.inl ⟨by rfl, ?_⟩) (by assumption) ?_
            rotate_left
            · (intro w hSw; (try dsimp only at hSw); go_simp; (try with_reducible rfl))
            (try simp only [Act.put, List.setIfInBounds_toArray, List.set_cons_zero, List.set_cons_succ])
            refine wpAnyH_take (i := 14) (v := ?_) (by simp only [List.getElem?_toArray, List.getElem?_cons_succ, List.getElem?_cons_zero]; rfl) (by kernel_rfl) (by kernel_rfl) (by kernel_rfl) (fun _ _ _ h => h) (Or.inl ⟨by rfl, ?_⟩) (by assumption) ?_
            rotate_left
            · (intro w hSw; (try dsimp only at hSw); go_simp; (try with_reducible rfl))
            (try simp only [Act.put, List.setIfInBounds_toArray, List.set_cons_zero, List.set_cons_succ])
            refine wpAnyH_take (i := 15) (v := ?_) (by simp only [List.getElem?_toArray, List.getElem?_cons_succ, List.getElem?_cons_zero]; rfl) (by kernel_rfl) (by kernel_rfl) (by kernel_rfl) (fun _ _ _ h => h) (Or.inl ⟨by rfl, ?_⟩) (by assumption) ?_
            rotate_left
            · (intro w hSw; (try dsimp only at hSw); go_simp; (try with_reducible rfl))
            (try simp only [Act.put, List.setIfInBounds_toArray, List.set_cons_zero, List.set_cons_succ])
            refine wpAnyH_take (i := 16) (v := ?_) (by simp only [List.getElem?_toArray, List.getElem?_cons_succ, List.getElem?_cons_zero]; rfl) (by kernel_rfl) (by kernel_rfl) (by kernel_rfl) (fun _ _ _ h => h) (Or.inl ⟨by rfl, ?_⟩) (by assumption) ?_
            rotate_left
            · (intro w hSw; (try dsimp only at hSw); go_simp; (try with_reducible rfl))
            (try simp only [Act.put, List.setIfInBounds_toArray, List.set_cons_zero, List.set_cons_succ])
            refine wpAnyH_take (i := 17) (v := ?_) (by simp only [List.getElem?_toArray, List.getElem?_cons_succ, List.getElem?_cons_zero]; rfl) (by kernel_rfl) (by kernel_rfl) (by kernel_rfl) (fun _ _ _ h => h) (Or.inl ⟨by rfl, ?_⟩) (by assumption) ?_
            rotate_left
            · (intro w hSw; (try dsimp only at hSw); go_simp; (try with_reducible rfl))
            (try simp only [Act.put, List.setIfInBounds_toArray, List.set_cons_zero, List.set_cons_succ])
            refine wpAnyH_take (i := 18) (v := ?_) (by simp only [List.getElem?_toArray, List.getElem?_cons_succ, List.getElem?_cons_zero]; rfl) (by kernel_rfl) (by kernel_rfl) (by kernel_rfl) (fun _ _ _ h => h) (Or.inl ⟨by rfl, ?_⟩) (by assumption) ?_
            rotate_left
            · (intro w hSw; (try dsimp only at hSw); go_simp; (try with_reducible rfl))
            (try simp only [Act.put, List.setIfInBounds_toArray, List.set_cons_zero, List.set_cons_succ])
            refine wpAnyH_take (i := 19) (v := ?_) (by simp only [List.getElem?_toArray, List.getElem?_cons_succ, List.getElem?_cons_zero]; rfl) (by kernel_rfl) (by kernel_rfl) (by kernel_rfl) (fun _ _ _ h => h) (Or.inl ⟨by rfl, ?_⟩) (by assumption) ?_
            rotate_left
            · (intro w hSw; (try dsimp only at hSw); go_simp; (try with_reducible rfl))
            (try simp only [Act.put, List.setIfInBounds_toArray, List.set_cons_zero, List.set_cons_succ])
            refine wpAnyH_take (i := 20) (v := ?_) (by simp only [List.getElem?_toArray, List.getElem?_cons_succ, List.getElem?_cons_zero]; rfl) (by kernel_rfl) (by kernel_rfl) (by kernel_rfl) (fun _ _ _ h => h) (Or.inl ⟨by rfl, ?_⟩) (by assumption) ?_
            rotate_left
            · (intro w hSw; (try dsimp only at hSw); go_simp; (try with_reducible rfl))
            (try simp only [Act.put, List.setIfInBounds_toArray, List.set_cons_zero, List.set_cons_succ])
            refine wpAnyH_take (i := 21) (v := ?_) (by simp only [List.getElem?_toArray, List.getElem?_cons_succ, List.getElem?_cons_zero]; rfl) (by kernel_rfl) (by kernel_rfl) (by kernel_rfl) (fun _ _ _ h => h) (Or.inl ⟨by rfl, ?_⟩) (by assumption) ?_
            rotate_left
            · (intro w hSw; (try dsimp only at hSw); go_simp; (try with_reducible rfl))
            (try simp only [Act.put, List.setIfInBounds_toArray, List.set_cons_zero, List.set_cons_succ])
            refine wpAnyH_take (i := 22) (v := ?_) (by simp only [List.getElem?_toArray, List.getElem?_cons_succ, List.getElem?_cons_zero]; rfl) (by kernel_rfl) (by kernel_rfl) (by kernel_rfl) (fun _ _ _ h => h) (Or.inl ⟨by rfl, ?_⟩) (by assumption) ?_
            rotate_left
            · (intro w hSw; (try dsimp only at hSw); go_simp; (try with_reducible rfl))
            (try simp only [Act.put, List.setIfInBounds_toArray, List.set_cons_zero, List.set_cons_succ])
            refine wpAnyH_take (i := 23) (v := ?_) (by simp only [List.getElem?_toArray, List.getElem?_cons_succ, List.getElem?_cons_zero]; rfl) (by kernel_rfl) (by kernel_rfl) (by kernel_rfl) (fun _ _ _ h => h) (Or.inl ⟨by rfl, ?_⟩) (by assumption) ?_
            rotate_left
            · (intro w hSw; (try dsimp only at hSw); go_simp; (try with_reducible rfl))
            (try simp only [Act.put, List.setIfInBounds_toArray, List.set_cons_zero, List.set_cons_succ])
            refine wpAnyH_take (i := 24) (v := ?_) (by simp only [List.getElem?_toArray, List.getElem?_cons_succ, List.getElem?_cons_zero]; rfl) (by kernel_rfl) (by kernel_rfl) (by kernel_rfl) (fun _ _ _ h => h) (Or.inl ⟨by rfl, ?_⟩) (by assumption) ?_
            rotate_left
            · (intro w hSw; (try dsimp only at hSw); go_simp; (try with_reducible rfl))
            (try simp only [Act.put, List.setIfInBounds_toArray, List.set_cons_zero, List.set_cons_succ])
            refine wpAnyH_take (i := 25) (v := ?_) (by simp only [List.getElem?_toArray, List.getElem?_cons_succ, List.getElem?_cons_zero]; rfl) (by kernel_rfl) (by kernel_rfl) (by kernel_rfl) (fun _ _ _ h => h) (Or.inl ⟨by rfl, ?_⟩) (by assumption) ?_
            rotate_left
            · (intro w hSw; (try dsimp only at hSw); go_simp; (try with_reducible rfl))
            (try simp only [Act.put, List.setIfInBounds_toArray, List.set_cons_zero, List.set_cons_succ])
            refine wpAnyH_take (i := 26) (v := ?_) (by simp only [List.getElem?_toArray, List.getElem?_cons_succ, List.getElem?_cons_zero]; rfl) (by kernel_rfl) (by kernel_rfl) (by kernel_rfl) (fun _ _ _ h => h) (Or.inl ⟨by rfl, ?_⟩) (by assumption) ?_
            rotate_left
            · (intro w hSw; (try dsimp only at hSw); go_simp; (try with_reducible rfl))
            (try simp only [Act.put, List.setIfInBounds_toArray, List.set_cons_zero, List.set_cons_succ])
            refine wpAnyH_take (i := 28) (v := ?_) (by simp only [List.getElem?_toArray, List.getElem?_cons_succ, List.getElem?_cons_zero]; rfl) (by kernel_rfl) (by kernel_rfl) (by kernel_rfl) (fun _ _ _ h => h) (Or.inl ⟨by rfl, ?_⟩) (by assumption) ?_
            rotate_left
            · (intro w hSw; (try dsimp only at hSw); go_simp; (try with_reducible rfl))
            (try simp only [Act.put, List.setIfInBounds_toArray, List.set_cons_zero, List.set_cons_succ])
            refine wpAnyH_ready (rs := [27]) (by kernel_rfl) (by simp) ?_
            refine AllReadyH.cons (by simp only [List.getElem?_toArray, List.getElem?_cons_succ, List.getElem?_cons_zero]; rfl) (fun K hK => ?_) AllReadyH.nil
            go_simp
            refine (HFR.out _ (HB9.out.trans (hHeld.1.mono HB9.out.size))).mono ?_
            rintro ee w10 ⟨rfl, hb10⟩
            have hB10 := hHeld.1.trans (hb10.mono hHeld.1.size)
            refine hK.out _ _ ?_ (fun hHeld => ?_)
            · exact ⟨hB10, HK.out _ hB10⟩
            clear hK K
            (try simp only [Act.put, List.setIfInBounds_toArray, List.set_cons_zero, List.set_cons_succ])
            refine wpAnyH_take (i := 29) (v := ?_) (by simp only [List.getElem?_toArray, List.getElem?_cons_succ, List.getElem?_cons_zero]; rfl) (by kernel_rfl) (by kernel_rfl) (by kernel_rfl) (fun _ _ _ h => h) (Or.inl ⟨by rfl, ?_⟩) (by assumption) ?_
            rotate_left
            · (intro w hSw; (try dsimp only at hSw); go_simp; (try with_reducible rfl))
            (try simp only [Act.put, List.setIfInBounds_toArray, List.set_cons_zero, List.set_cons_succ])
            refine wpAnyH_take (i := 30) (v := ?_) (by simp only [List.getElem?_toArray, List.getElem?_cons_succ, List.getElem?_cons_zero]; rfl) (by kernel_rfl) (by kernel_rfl) (by kernel_rfl) (fun _ _ _ h => h) (Or.inl ⟨by rfl, ?_⟩) (by assumption) ?_
            rotate_left
            · (intro w hSw; (try dsimp only at hSw); go_simp; (try with_reducible rfl))
            (try simp only [Act.put, List.setIfInBounds_toArray, List.set_cons_zero, List.set_cons_succ])
            refine wpAnyH_done (by kernel_rfl) ?_ _
            refine NoPanic.normal ?_
            have HB10 := Lib.hid (HB79.out.trans (hB10.mono h79))
            clear hB10 hb10 hHeld hNY
            go_wp2
            go_roundg (m - (j + 1))
            case measure => omega
            case rel => exact ⟨j + 1, by omega, by go_num, Nat.le_refl _, HB10⟩
          · have hat : atE M (m : Int) = (zEn, false) := by unfold atE; rw [if_neg (by omega), Int.toNat_natCast, List.getElem?_eq_none (by rw [HMl.out]; exact Nat.le_refl _)]
            have HAT := Lib.hid (tat_any B _ _ (m : Int) _ M wr HTr.out (by have := HMl.out; omega))
            rw [hat] at HAT
            clear hat
            go_upto_region 35 with fail
            go_wp2_with fail
            refine HAT.out.mono ?_
            rintro e w8 ⟨rfl, hb8⟩
            go_wp2
            go_ret
            exact ⟨rfl, HB7.out.trans ((HWj.out.trans (hb8.mono hsr)).mono hs7 |>.alloc (Nat.le_trans hs7 (Nat.le_trans hsr hb8.size)) _)⟩
end Go.Proofs.Ytgdkcnpgnmmliab
