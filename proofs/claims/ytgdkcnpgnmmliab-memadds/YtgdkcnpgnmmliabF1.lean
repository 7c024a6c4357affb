/- What is there behind some Adds; the walk of MemFroms. -/
import Derived.Test.YtgdkcnpgnmmliabH2
namespace Go.Proofs.Ytgdkcnpgnmmliab
set_option linter.unusedSimpArgs false
set_option linter.unusedVariables false
open Go.RowKit

/-- What may be said of the entries of a table into which at most i entries were put. -/
structure Few (M : List En) (i : Nat) : Prop where
  len : M.length ≤ i
  size : (szE M : Int) ≤ (i : Int) * 70000
  key : ∀ y ∈ M, 0 < y.k.size
theorem Few.nil : Few [] 0 := ⟨Nat.le_refl _, by decide, by simp⟩
theorem addL_ok (M : List En) (y : En) (h : addR M y = 0) : addL M y = ins cmpE M y ∧ chkE y = 0 ∧ hit cmpE M y = false := by
  refine ⟨by unfold addL; rw [if_pos h], ?_⟩
  unfold addR at h
  split at h
  · rename_i hc
    refine ⟨hc, ?_⟩
    split at h
    · cases h
    · rename_i hh; simpa using hh
  · rename_i hc; exact absurd h hc
theorem addL_no (M : List En) (y : En) (h : addR M y ≠ 0) : addL M y = M := by unfold addL; rw [if_neg h]
set_option maxRecDepth 100000 in
theorem Few.add {M : List En} {i : Nat} (h : Few M i) (y : En) : Few (addL M y) (i + 1) := by
  by_cases hr : addR M y = 0
  · obtain ⟨e1, e2, e3⟩ := addL_ok M y hr
    obtain ⟨k1, k2, k3⟩ := chkE_0 y e2
    rw [e1]
    refine ⟨by rw [ins_length]; have := h.len; omega, ?_, fun z hz => ?_⟩
    rotate_left
    · rcases (mem_ins (c := cmpE) M y z).1 hz with rfl | hz
      · exact k3
      · exact h.key z hz
    · have e : (szE (ins cmpE M y) : Int) = (szE M : Int) + ((y.k.size : Int) + (y.v.size : Int) + 16) := by rw [szE_ins]; push_cast; rfl
      have k1' : (y.k.size : Int) ≤ 128 := by clear h e; omega
      have k2' : (y.v.size : Int) ≤ 65536 := by clear h e; omega
      have h1 := h.size
      clear k1 k2
      rw [e]
      push_cast
      omega
  · rw [addL_no M y hr]
    exact ⟨by have := h.len; omega, by have := h.size; omega, h.key⟩

/-- .. and how many of them are ahead of x. -/
def ahead (M : List En) (x : En) : Nat := M.countP fun y => decide (cmpE y x < 0)
theorem ahead_add (M : List En) (y x : En) : ahead (addL M y) x = if addR M y = 0 ∧ cmpE y x < 0 then ahead M x + 1 else ahead M x := by
  by_cases hr : addR M y = 0
  · rw [(addL_ok M y hr).1]
    unfold ahead
    rw [(ins_perm (c := cmpE) M y).countP_eq, List.countP_cons]
    by_cases hc : cmpE y x < 0 <;> simp [hr, hc]
  · rw [addL_no M y hr, if_neg (fun h => hr h.1)]

theorem fit_of {L : List En} (hf : ∀ x ∈ L, x.fit) {i : Nat} {y : En} (hy : L[i]? = some y) : y.fit := hf y (List.mem_of_getElem? hy)

theorem not_foot {w : World} {base gt gs : Nat} {v : Value} {L : List En} (h : Tb w base gt gs v L) : w.heap.size ∉ gt :: gs :: v.ownBlock.toList := by
  simp only [List.mem_cons, Option.mem_toList, not_or]
  exact ⟨fun e => by have := h.box.lt; omega, fun e => by have := h.sd.box.lt; omega, fun e => by have := (h.sd.own.lt _ e).2; omega⟩

/-- A row of entries that may be written over. -/
def Zr (w : World) (base : Nat) (A : Option Addr) (n : Nat) : Prop := n = 0 ∨ ∃ g cur, A = some ⟨g, 0, none⟩ ∧ w.heap[g]? = some (.cells cur 42 (0, 0)) ∧ n * 4 ≤ cur.size ∧ base ≤ g
theorem setCell_row (w : World) (g o : Nat) (cur : Array Value) (t : TypeId) (fr : Nat × Nat) (v : Value) (h : w.heap[g]? = some (.cells cur t fr)) : (w.setCell ⟨g, o, none⟩ v).heap[g]? = some (.cells (cur.setIfInBounds o v) t fr) := by
  simp [World.setCell, Array.getElem?_modify, h]
theorem Zr.of {w : World} {base : Nat} {A : Option Addr} {c : Nat} {L : List En} (h : OwnE w base (.slice A L.length c) L) : Zr w base A L.length := by
  rcases h.2 with ⟨_, h0⟩ | ⟨g, cap, cur, e, hb, hg, hnc, hcm, hcs, ht⟩
  · exact .inl h0
  · injection e with e1 e2 e3
    exact .inr ⟨g, cur, e1, hg, by omega, hb⟩

set_option maxHeartbeats 4000000 in
set_option maxRecDepth 100000 in
theorem froms_walk (A : Option Addr) (c : Nat) (L : List En) (x : En) (w : World) (hr : RdN w w.heap.size 4 A L.length (flat L)) (hf : ∀ x ∈ L, x.fit) (hlen : L.length ≤ maxLen) (hx : x.fit) :
    Calls Try.prog 6 #[.slice A L.length c, x.val] w fun e w' => e = .returned (.bool true) ∧ Below w.heap.size w w' := by
  have HBIG := Lib.hid (fun W (hb : Below w.heap.size w W) => big_any A c L W ((hr.below hb).up hb.size) hf hlen)
  have HR := Lib.hid hr
  have HF := Lib.hid hf
  have hxk : (x.k.size : Int) ≤ 9223372036854775807 := by have := hx.1; unfold maxLen at this; omega
  have hxv : (x.v.size : Int) ≤ 9223372036854775807 := by have := hx.2.1; unfold maxLen at this; omega
  have hlen' : (L.length : Int) ≤ 9223372036854775807 := by unfold maxLen at hlen; omega
  clear hr hf hlen hx
  obtain ⟨bg, hbg⟩ : ∃ bg, bg = bigE L := ⟨_, rfl⟩
  rw [← hbg] at HBIG
  have HBG := Lib.hid hbg
  clear hbg
  obtain ⟨n, hn⟩ : ∃ n, n = L.length := ⟨_, rfl⟩
  rw [← hn] at HBIG hlen' ⊢
  have HN := Lib.hid hn
  clear hn
  go_enter Try.func6, Try.ntmps6
  go_upto_region 1 with fail
  generalize hw0 : w.alloc (.cells #[.string x.k, .int .u64 x.S, .bool x.d, .string x.v] 42) = w0
  have HB0 : Hid (Below w.heap.size w w0) := by rw [← hw0]; exact Lib.hid ((Below.refl _ _).alloc (Nat.le_refl _) _)
  have HX0 : Hid (Bx4 w0 w.heap.size (.string x.k) (.int .u64 x.S) (.bool x.d) (.string x.v)) := by rw [← hw0]; exact Lib.hid (Bx4.new w _ _ _ _ _)
  clear hw0
  generalize hb : w.heap.size = b at *
  have HBb := Lib.hid hb
  clear hb
  go_upto_region 3 with (go_at_call 15; refine (head_any _).mono ?_; rintro e w1 ⟨rfl, hb1⟩)
  have HB1 := Lib.hid (HB0.out.trans (hb1.mono (Nat.le_of_lt HX0.out.lt)))
  have HX1 := Lib.hid (HX0.out.keep (hb1.block _ HX0.out.lt))
  clear hb1 HX0 HB0
  go_wp2_with fail
  refine (HBIG.out _ HB1.out).mono ?_
  rintro e w2 ⟨rfl, hb2⟩
  have HB2 := Lib.hid (HB1.out.trans (hb2.mono (Nat.le_of_lt HX1.out.lt)))
  have HX2 := Lib.hid (HX1.out.keep (hb2.block _ HX1.out.lt))
  clear hb2 HX1 HB1 HBIG
  have x0 := HX2.out.c0
  have x3 := HX2.out.c3
  cases bg with
  | true =>
    go_wp2
    go_ret
    exact ⟨rfl, by rw [HBb.out]; exact HB2.out⟩
  | false =>
    by_cases hk3 : (300 : Int) < (x.k.size : Int)
    · go_wp2
      go_ret
      exact ⟨rfl, by rw [HBb.out]; exact HB2.out⟩
    · by_cases hv3 : (70000 : Int) < (x.v.size : Int)
      · go_wp2
        go_ret
        exact ⟨rfl, by rw [HBb.out]; exact HB2.out⟩
      · have hno := bigE_no L HBG.out.symm
        have h60 : n ≤ 60 := by have := hno.1; have := HN.out; omega
        clear hno
        go_upto_region 5 with fail
        clear x0 x3
        have HT3 := Lib.hid (Tb.new w2 w2.heap.size (Nat.le_refl _))
        have HB3 : Hid (Below w2.heap.size w2 ((w2.alloc (.cells #[fCmp, .slice none 0 0] 68)).alloc (.cells #[.pointer (some ⟨w2.heap.size, 0, none⟩), .int .i64 0] 61))) := Lib.hid (((Below.refl _ _).alloc (Nat.le_refl _) _).alloc (by simp) _)
        go_upto_region 6 with (go_at_call 17; refine (new_any _).mono ?_; rintro e w' ⟨rfl, rfl⟩)
        generalize ((w2.alloc (.cells #[fCmp, .slice none 0 0] 68)).alloc (.cells #[.pointer (some ⟨w2.heap.size, 0, none⟩), .int .i64 0] 61)) = w3 at *
        generalize hB : w2.heap.size = B at *
        have HBB := Lib.hid hB
        clear hB
        have hbB : b < B := by have := HX2.out.lt; rw [HBB.out] at this; exact this
        go_upto_region 8 with fail
        go_loopg [6, 8, 32] n (fun kx s6 s8 s32 wr => ∃ (i : Nat) (M : List En) (v : Value), i ≤ n ∧ s32 = .int .i64 i ∧ n - i ≤ kx ∧ s6 = .int .i64 (ahead M x : Nat) ∧ Hid (Few M i) ∧ Hid (Tb wr B (B + 1) B v M) ∧ Hid (Below B w2 wr))
        case atStart => exact ⟨0, [], _, Nat.zero_le _, rfl, Nat.le_refl _, rfl, Lib.hid Few.nil, HT3, HB3⟩
        case round =>
          obtain ⟨i, M, v, hi, rfl, hkx, rfl, HFEW, HT, HW⟩ := hrel
          have hcnt : ahead M x ≤ 60 := by have := HFEW.out.len; have : ahead M x ≤ M.length := List.countP_le_length; omega
          have hM : (M.length : Int) ≤ 60 := by have := HFEW.out.len; omega
          have hBw : Below b w wr := HB2.out.trans (HW.out.mono (by omega))
          have hBs : B ≤ wr.heap.size := by have := HW.out.size; rw [HBB.out] at this; exact this
          by_cases hlt : i < n
          · obtain ⟨y, hy⟩ : ∃ y, L[i]? = some y := ⟨_, List.getElem?_eq_getElem (by have := HN.out; omega)⟩
            have HY := Lib.hid hy
            have hfit := fit_of HF.out hy
            have hsm := HFEW.out.size
            have hsM : (szE M : Int) ≤ 1000000000000 := by omega
            have HADD := Lib.hid (fun r (hr : addR M y = r) => fun W (hb : Below wr.heap.size wr W) => add_to B (B + 1) B v M (addL M y) y r W ⟨hr, rfl⟩ (HT.out.below hb) (Nat.le_trans hBs hb.size) (by omega) hsM hfit.1 hfit.2.1)
            have hRD := (HR.out.below hBw).ent i y hy
            obtain ⟨g, off, rfl, hgb, c0, c1, c2, c3⟩ := hRD
            have X2 := HX2.out.keep (HW.out.block b (by omega))
            clear hy hfit hsm hsM
            go_upto_region 10 with fail
            generalize hw0 : wr.alloc (.cells #[.string y.k, .int .u64 y.S, .bool y.d, .string y.v] 42) = wq
            have bq : Below wr.heap.size wr wq := by rw [← hw0]; exact (Below.refl _ _).alloc (Nat.le_refl _) _
            have Yq : Bx4 wq wr.heap.size (.string y.k) (.int .u64 y.S) (.bool y.d) (.string y.v) := by rw [← hw0]; exact Bx4.new wr _ _ _ _ _
            have Xq := X2.keep (bq.block b (by omega))
            have y0 := Yq.c0
            have y1 := Yq.c1
            have y2 := Yq.c2
            have y3 := Yq.c3
            have HBq := Lib.hid bq
            have HYq := Lib.hid Yq
            have HXq := Lib.hid Xq
            clear hw0 bq Yq Xq X2 c0 c1 c2 c3 hBw
            by_cases hr0 : addR M y = 0
            · go_wp2_with fail
              refine (HADD.out 0 hr0 _ HBq.out).mono ?_
              rintro e w5 ⟨v5, rfl, T5, t5, o5⟩
              have hB5 : Below B wq w5 := (HT.out.below HBq.out).feet t5 (Nat.le_trans hBs HBq.out.size)
              have Y5 := HYq.out.keep (t5.block _ HYq.out.lt (fun hm => not_foot HT.out hm))
              have X5 := HXq.out.keep (hB5.block b (by omega))
              have HT5 := Lib.hid T5
              have HB5 := Lib.hid (HW.out.trans ((HBq.out.mono hBs).trans hB5))
              have y0 := Y5.c0
              have y1 := Y5.c1
              have y2 := Y5.c2
              have y3 := Y5.c3
              have x0 := X5.c0
              have x1 := X5.c1
              have x2 := X5.c2
              have x3 := X5.c3
              have hs5 : B ≤ w5.heap.size := by have := HB5.out.size; rw [HBB.out] at this; exact this
              clear T5 t5 o5 hB5 Y5 X5
              have HC := Lib.hid (fun W => cmp_en y x W)
              have HAH := Lib.hid (ahead_add M y x)
              obtain ⟨z, hz⟩ : ∃ z, z = cmpE y x := ⟨_, rfl⟩
              rw [← hz] at HC HAH
              clear hz
              have HR0 := Lib.hid hr0
              clear hr0
              by_cases hz0 : z < 0
              all_goals
                go_wp2_with (go_at_call 19; refine (HC.out _).mono ?_; rintro e w6 ⟨rfl, hb6⟩)
                go_roundg (n - (i + 1))
                case measure => omega
                case rel =>
                  refine ⟨i + 1, addL M y, v5, by omega, by go_num, Nat.le_refl _, ?_, Lib.hid (HFEW.out.add y), Lib.hid (HT5.out.below hb6), Lib.hid (HB5.out.trans (hb6.mono hs5))⟩
                  first
                    | (rw [HAH.out, if_pos ⟨HR0.out, hz0⟩]; go_num)
                    | (rw [HAH.out, if_neg (fun h => absurd h.2 (by omega))])
            · go_wp2_with fail
              refine (HADD.out _ rfl _ HBq.out).mono ?_
              rintro e w5 ⟨v5, rfl, T5, t5, o5⟩
              have hB5 : Below B wq w5 := (HT.out.below HBq.out).feet t5 (Nat.le_trans hBs HBq.out.size)
              have HT5 := Lib.hid T5
              have HB5 := Lib.hid (HW.out.trans ((HBq.out.mono hBs).trans hB5))
              have HAH := Lib.hid (ahead_add M y x)
              have HR0 := Lib.hid hr0
              generalize addR M y = r at *
              have hr1 : ¬ r = 0 := HR0.out
              clear T5 t5 o5 hB5 hr0
              go_wp2
              go_roundg (n - (i + 1))
              case measure => omega
              case rel =>
                refine ⟨i + 1, addL M y, v5, by omega, by go_num, Nat.le_refl _, ?_, Lib.hid (HFEW.out.add y), HT5, HB5⟩
                rw [HAH.out, if_neg (fun h => HR0.out h.1)]
          · have HT0 := HT.out
            have HFR := Lib.hid (from_any B (B + 1) B v M x wr HT0 (by omega))
            have hpc : pos cmpE M x = ahead M x := HT0.sd.srt.pos_count ordE x
            rw [hpc] at HFR
            have X2 := HX2.out.keep (HW.out.block b (by omega))
            have x0 := X2.c0
            have x1 := X2.c1
            have x2 := X2.c2
            have x3 := X2.c3
            have HBw := Lib.hid hBw
            clear hpc X2 HT0 hBw
            generalize ahead M x = cn at *
            go_upto_region 15 with (go_at_call 25; refine HFR.out.mono ?_; rintro e w7 ⟨rfl, hb7⟩)
            clear x0 x1 x2 x3
            have T7 := HT.out.below hb7
            have HT7 := Lib.hid T7
            have hBw7 : Below b w w7 := HBw.out.trans (hb7.mono (by omega))
            have hs7 : B ≤ w7.heap.size := Nat.le_trans hBs hb7.size
            have HB7 := Lib.hid hBw7
            clear hb7 T7 hBw7
            go_wp2_with fail
            refine (all_any B (B + 1) B v M w7 HT7.out (by omega)).mono ?_
            rintro e w8 ⟨v9, rfl, O8, hb8⟩
            obtain ⟨A9, c9, rfl, hnc9, hcm9, _⟩ := own_rdN O8
            have HZ8 := Lib.hid (Zr.of O8)
            have HB8 := Lib.hid hb8
            have hMk := HFEW.out.key
            have HMK := Lib.hid hMk
            clear O8 hb8 hMk
            obtain ⟨m, hm⟩ : ∃ m, m = M.length := ⟨_, rfl⟩
            rw [← hm] at HZ8 hM hnc9 ⊢
            have HM := Lib.hid hm
            clear hm
            unfold maxLen at hcm9
            go_upto_region 17 with fail
            go_loopg [10, 58] m (fun kx s10 s58 wr => ∃ j : Nat, j ≤ m ∧ s58 = .int .i64 j ∧ m - j ≤ kx ∧ Hid (Below w7.heap.size w7 wr) ∧ Hid (Zr wr w7.heap.size A9 m))
            case atStart => exact ⟨0, Nat.zero_le _, rfl, Nat.le_refl _, HB8, HZ8⟩
            case round =>
              obtain ⟨j, hj, rfl, hkx, HWZ, HZ⟩ := hrel
              by_cases hlt2 : j < m
              · obtain ⟨g, cur, rfl, hg, hcs, hgb⟩ : ∃ g cur, A9 = some ⟨g, 0, none⟩ ∧ wr.heap[g]? = some (.cells cur 42 (0, 0)) ∧ m * 4 ≤ cur.size ∧ w7.heap.size ≤ g := by
                  rcases HZ.out with h | h
                  · omega
                  · exact h
                have cell : ∀ k, k < 4 → ∃ u, wr.cell? ⟨g, j * 4 + k, none⟩ = some u := fun k hk => ⟨_, (cell_of_row wr g _ cur _ _ hg).trans (Array.getElem?_eq_getElem (by omega))⟩
                obtain ⟨u0, d0⟩ := cell 0 (by omega)
                rw [Nat.add_zero] at d0
                obtain ⟨u1, d1⟩ := cell 1 (by omega)
                obtain ⟨u2, d2⟩ := cell 2 (by omega)
                obtain ⟨u3, d3⟩ := cell 3 (by omega)
                have fz : ∀ o, wr.frozen? ⟨g, o, none⟩ = false := fun o => by simp [World.frozen?, hg]
                have f0 := fz (j * 4)
                have f1 := fz (j * 4 + 1)
                have f2 := fz (j * 4 + 2)
                have f3 := fz (j * 4 + 3)
                have HST : Hid (∀ a0 a1 a2 a3, Below w7.heap.size w7 ((((wr.setCell ⟨g, j * 4, none⟩ a0).setCell ⟨g, j * 4 + 1, none⟩ a1).setCell ⟨g, j * 4 + 2, none⟩ a2).setCell ⟨g, j * 4 + 3, none⟩ a3) ∧
                    Zr ((((wr.setCell ⟨g, j * 4, none⟩ a0).setCell ⟨g, j * 4 + 1, none⟩ a1).setCell ⟨g, j * 4 + 2, none⟩ a2).setCell ⟨g, j * 4 + 3, none⟩ a3) w7.heap.size (some ⟨g, 0, none⟩) m) := Lib.hid fun a0 a1 a2 a3 => by
                  refine ⟨(((HWZ.out.setCell (p := ⟨g, _, none⟩) hgb a0).setCell (p := ⟨g, _, none⟩) hgb a1).setCell (p := ⟨g, _, none⟩) hgb a2).setCell (p := ⟨g, _, none⟩) hgb a3, .inr ⟨g, _, rfl, setCell_row _ g _ _ _ _ a3 (setCell_row _ g _ _ _ _ a2 (setCell_row _ g _ _ _ _ a1 (setCell_row _ g _ _ _ _ a0 hg))), ?_, hgb⟩⟩
                  simpa using hcs
                clear cell fz hg hcs HZ
                go_wp2
                go_roundg (m - (j + 1))
                case measure => omega
                case rel => exact ⟨j + 1, by omega, by go_num, Nat.le_refl _, Lib.hid (HST.out _ _ _ _).1, Lib.hid (HST.out _ _ _ _).2⟩
              · have TZ := HT7.out.below HWZ.out
                have HBZ := Lib.hid (HB7.out.trans (HWZ.out.mono (by omega)))
                have HTZ := Lib.hid TZ
                clear TZ
                go_upto_region 21 with fail
                go_wp2_with fail
                refine (all_any B (B + 1) B v M wr HTZ.out (by have := HM.out; omega)).mono ?_
                rintro e w10 ⟨v11, rfl, O10, hb10⟩
                obtain ⟨A11, c11, rfl, hnc11, hcm11, hr11⟩ := own_rdN O10
                have HR11 := Lib.hid hr11
                have hszz : B ≤ wr.heap.size := Nat.le_trans hs7 HWZ.out.size
                have HB10 := Lib.hid (HBZ.out.trans (hb10.mono (by omega)))
                have hs10 : b ≤ w10.heap.size := by have := hb10.size; omega
                rw [← HM.out] at hnc11 ⊢
                clear O10 hb10 hr11
                unfold maxLen at hcm11
                go_upto_region 23 with fail
                go_loopg [12, 70] m (fun kx s12 s70 wy => ∃ j : Nat, j ≤ m ∧ s70 = .int .i64 j ∧ m - j ≤ kx ∧ Hid (Below w10.heap.size w10 wy))
                case atStart => exact ⟨0, Nat.zero_le _, rfl, Nat.le_refl _, Lib.hid (Below.refl _ _)⟩
                case round =>
                  obtain ⟨q, hq, rfl, hkq, HWY⟩ := hrel
                  by_cases hlt3 : q < m
                  · obtain ⟨y, hy⟩ : ∃ y, M[q]? = some y := ⟨_, List.getElem?_eq_getElem (by have := HM.out; omega)⟩
                    have hyk := HMK.out y (List.mem_of_getElem? hy)
                    obtain ⟨g, off, rfl, hgb, c0, c1, c2, c3⟩ := (HR11.out.below HWY.out).ent q y hy
                    have e2 : y.k.toList.isEmpty = false := by rw [emp_iff]; exact decide_eq_false (by omega)
                    have e1 : (y.k.toList == []) = false := by
                      cases h : y.k.toList with
                      | nil => rw [h] at e2; cases e2
                      | cons a l => rfl
                    have e3 : (y.k.toList == (⟨#[]⟩ : ByteArray).toList) = false := by rw [ByteArray.toList_eq ⟨#[]⟩]; exact e1
                    clear hy hyk c1 c2 c3
                    go_wp2
                    go_roundg (m - (q + 1))
                    case measure => omega
                    case rel => exact ⟨q + 1, by omega, by go_num, Nat.le_refl _, HWY⟩
                  · go_wp2
                    go_ret
                    refine ⟨?_, by rw [HBb.out]; exact HB10.out.trans (HWY.out.mono hs10)⟩
                    simp
end Go.Proofs.Ytgdkcnpgnmmliab
