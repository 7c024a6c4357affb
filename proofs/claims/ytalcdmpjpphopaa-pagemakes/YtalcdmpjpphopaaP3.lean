/- Walks: Make. -/
import Derived.Test.YtalcdmpjpphopaaP2
import Derived.IntWalk
import Derived.Deep.RegionHeld3
namespace Go.Proofs.Ytalcdmpjpphopaa
set_option linter.unusedSimpArgs false
set_option linter.unusedVariables false
open Go.RowKit

theorem Try.info3 : (Try.prog.info? 3).map (fun i => (i.zero, i.size, i.bytes)) = some (some (.int .i64 0), 1, 8) := by kernel_rfl
/-- Numbers as cells of ints. -/
def ints (l : List Nat) : List Value := l.map fun (x : Nat) => Value.int .i64 (x : Int)
theorem ints_len (l : List Nat) : (ints l).length = l.length := by simp [ints]
theorem ints_app (l m : List Nat) : ints (l ++ m) = ints l ++ ints m := by simp [ints]
theorem ints_get (l : List Nat) (k : Nat) (h : k < l.length) : (ints l)[k]? = some (.int .i64 (l.getD k 0 : Int)) := by
  simp [ints, List.getElem?_map, List.getElem?_eq_getElem h, List.getD_eq_getElem?_getD]

/-- What Make has laid so far. -/
structure MkS (w0 : World) (B : Nat) (L : List Pr) (wr : World) (v4 v5 : Value) (i : Nat) (prev b st : List Nat) : Prop where
  buf : Buf wr B v4 b.length (bys b)
  sts : Buf wr B v5 st.length (ints st)
  ap : ∀ k, v4.ownBlock = some k → v5.ownBlock = some k → False
  bel : Below B w0 wr
  made : mk L = mkGo i prev b st (L.drop i)
  pre : 0 < i → ∃ p, L[i - 1]? = some p ∧ p.1 = prev
  long : b.length ≤ 262144
  few : st.length ≤ i
  small : ∀ x ∈ st, x ≤ 262144
  pok : (∀ x ∈ prev, x < 256) ∧ prev.length ≤ 1000000

theorem MkS.below {w0 wr w' : World} {B : Nat} {L : List Pr} {v4 v5 : Value} {i : Nat} {prev b st : List Nat} (h : MkS w0 B L wr v4 v5 i prev b st) (hb : Below wr.heap.size wr w') (hB : B ≤ wr.heap.size) : MkS w0 B L w' v4 v5 i prev b st :=
  ⟨h.buf.below hb fun k hk => (h.buf.lt k hk).2, h.sts.below hb fun k hk => (h.sts.lt k hk).2, h.ap, h.bel.trans (hb.mono hB), h.made, h.pre, h.long, h.few, h.small, h.pok⟩
theorem lit4 (x : Nat) : kk 4 = 4 := rfl
theorem take_snoc' (l : List Nat) (j : Nat) (h : j < l.length) : l.take (j + 1) = l.take j ++ [l.getD j 0] := by
  rw [List.take_add_one, List.getElem?_eq_getElem h]; simp [List.getD, h]

set_option maxHeartbeats 4000000 in
set_option maxRecDepth 100000 in
theorem make_any (A : Option Addr) (c : Nat) (L : List Pr) (w : World) (hr : RdN w w.heap.size 2 A L.length (prC2 L)) (hok : ∀ p ∈ L, okP p) (hl : (L.length : Int) ≤ 1000000) :
    Calls Try.prog 11 #[.slice A L.length c] w fun e w' => ∃ v', e = .returned (.tuple #[v', .int .i64 (((mk L).2 : Nat) : Int)]) ∧ Buf w' w.heap.size v' (mk L).1.length (bys (mk L).1) ∧ Below w.heap.size w w' := by
  obtain ⟨i3, hi3, hx0, hx1, hx2⟩ := info_parts Try.info3
  have HR := Lib.hid hr
  have HOK := Lib.hid hok
  obtain ⟨B, hB⟩ : ∃ B, B = w.heap.size := ⟨_, rfl⟩
  rw [← hB]
  have HBE := Lib.hid hB
  have S0 : MkS w B L w (.slice none 0 0) (.slice none 0 0) 0 [] [] [] := ⟨Buf.nil w B, Buf.nil w B, by simp [Value.ownBlock], Below.refl _ _, rfl, fun h => absurd h (by omega), by simp, by simp, by simp, by simp⟩
  have HS0 := Lib.hid S0
  obtain ⟨R, hR⟩ : ∃ R, R = mk L := ⟨_, rfl⟩
  rw [← hR]
  have HRE := Lib.hid hR
  obtain ⟨N, hN⟩ : ∃ N, N = L.length := ⟨_, rfl⟩
  rw [← hN] at hl ⊢
  have HN := Lib.hid hN
  clear hr hok hB S0 hR hN
  go_enter Try.func11, Try.ntmps11
  go_upto_region 4 with fail
  go_loopg [4, 5, 6, 7, 12] N (fun kx v4 v5 v6 v7 v12 wr => ∃ (i : Nat) (prev b st : List Nat), i ≤ N ∧ kx = N - i ∧ v12 = .int .i64 (i : Int) ∧ Hid (MkS w B L wr v4 v5 i prev b st))
  case atStart => exact ⟨0, [], [], [], Nat.zero_le _, rfl, rfl, HS0⟩
  case round =>
    obtain ⟨i, prev, b, st, hiN, hkx, rfl, HS⟩ := hrel
    have HX := Lib.hid hkx
    clear hkx HS0
    by_cases hlt : i < N
    · have hlt' : (i : Int) < (N : Int) := by omega
      obtain ⟨p, hp⟩ : ∃ p, L[i]? = some p := ⟨_, List.getElem?_eq_getElem (by have := HN.out; omega)⟩
      have hpo := HOK.out p (List.mem_of_getElem? hp)
      have HD : Hid (L.drop i = p :: L.drop (i + 1)) := Lib.hid (by
        obtain ⟨h1, rfl⟩ := List.getElem?_eq_some_iff.1 hp
        exact List.drop_eq_getElem_cons h1)
      have hmk := HS.out.made
      rw [HD.out, mkGo] at hmk
      have hbw : Below w.heap.size w wr := by rw [← HBE.out]; exact HS.out.bel
      have hRw := HR.out.below hbw
      obtain ⟨g, off, rfl, hgB, c0, c1⟩ := hRw.pr i p hp
      go_upto_region 6 with fail
      obtain ⟨wq, hwq⟩ : ∃ wq, wq = wr.alloc (.cells #[.string (strB p.1), .string (strB p.2)] 30) := ⟨_, rfl⟩
      rw [← hwq]
      obtain ⟨gp, hgp⟩ : ∃ gp, gp = wr.heap.size := ⟨_, rfl⟩
      rw [← hgp]
      have bq : Below wr.heap.size wr wq := by rw [hwq]; exact (Below.refl _ _).alloc (Nat.le_refl _) _
      have hm2 : ∀ k, wq.cell? ⟨gp, k, none⟩ = #[Value.string (strB p.1), Value.string (strB p.2)][k]? := fun k => by rw [hwq, hgp]; exact World.cell?_alloc_mark _ _ _ _ _
      have q0 : wq.cell? ⟨gp, 0, none⟩ = some (.string (strB p.1)) := hm2 0
      have q1 : wq.cell? ⟨gp, 1, none⟩ = some (.string (strB p.2)) := hm2 1
      have zq : gp < wq.heap.size := World.block_lt_of_cell? _ _ q0
      have HBR := Lib.hid (by have := HS.out.bel.size; rw [hgp]; have := HBE.out; omega : B ≤ gp)
      have HGP := Lib.hid hgp
      have HSQ : Hid (MkS w B L wq u4 u5 i prev b st) := Lib.hid (HS.out.below bq (by have := HBR.out; have := HGP.out; omega))
      have HV4 : Hid (∀ k, u4.ownBlock = some k → k < gp) := Lib.hid (fun k hk => by rw [HGP.out]; exact (HS.out.buf.lt k hk).2)
      have HV5 : Hid (∀ k, u5.ownBlock = some k → k < gp) := Lib.hid (fun k hk => by rw [HGP.out]; exact (HS.out.sts.lt k hk).2)
      have hRq := hRw.below (bq.mono hbw.size)
      have HPI := Lib.hid hp
      clear hm2 hwq hgp c0 c1 hRw hbw HS HD
      have HSW0 := HSQ
      have HW0a := Lib.hid q0
      have HW1a := Lib.hid q1
      have HRWa := Lib.hid hRq
      have HZWa := Lib.hid zq
      by_cases hi0 : i = 0
      · have hgt : decide ((0 : Int) < (i : Int)) = false := by simp; omega
        have hgtn : decide (0 < i) = false := by simp; omega
        have hi00 : ¬ 0 < i := by omega
        have h8 : (i : Int) % 8 = 0 := by omega
        rw [if_neg (show ¬ (decide (0 < i) && leL p.1 prev) = true by rw [decide_eq_false (by omega)]; simp), show (if i % 8 = 0 then st ++ [b.length] else st) = st ++ [b.length] from if_pos (by omega)] at hmk
        have HMZ := Lib.hid hmk
        clear hmk hi0
        go_quiet (fail)
        clear q0 q1 hRq hgt hgtn hi00
        obtain ⟨ww, hww⟩ : ∃ ww, ww = wq.drewN nq := ⟨_, rfl⟩
        rw [← hww]
        have HSW : Hid (MkS w B L ww u4 u5 i prev b st) := by rw [hww]; exact Lib.hid (HSW0.out.below (below_drewN _ _) (by have := HBR.out; omega))
        have HW0 : Hid (ww.cell? ⟨gp, 0, none⟩ = some (.string (strB p.1))) := by rw [hww]; exact Lib.hid HW0a.out
        have HW1 : Hid (ww.cell? ⟨gp, 1, none⟩ = some (.string (strB p.2))) := by rw [hww]; exact Lib.hid HW1a.out
        have HRW : Hid (RdN ww w.heap.size 2 (some ⟨g, off, none⟩) L.length (prC2 L)) := by rw [hww]; exact Lib.hid (HRWa.out.drewN nq)
        have HZW : Hid (gp < ww.heap.size) := by rw [hww]; exact Lib.hid HZWa.out
        clear hww
        have hst5 := HSW.out.sts
        have hbw2 := Nat.le_trans HBR.out (Nat.le_of_lt HZW.out)
        have hfew : (st.length : Int) ≤ 1000000 := by have := HSW.out.few; omega
        have hb4l : (b.length : Int) ≤ 262144 := by have := HSW.out.long; omega
        obtain ⟨A4, c4, rfl, _, _⟩ := HSW.out.buf.slice
        go_wp2_with (at_builtin; refine wpList_append_one _ rfl (.tmp 33) (.tmp 36) 55 rfl B 3 i3 (.int .i64 0) 8 Try.underlying55 hi3 hx0 hx1 hx2 rfl rfl hst5 rfl rfl ?b1 ?b2 hbw2 ?next)
        case b1 => unfold maxLen; omega
        case b2 => omega
        case next =>
          intro vz wz r1 r2 r3
          have HSTZ : Hid (Buf wz B vz (st ++ [b.length]).length (ints (st ++ [b.length]))) := Lib.hid (by
            rw [ints_app, List.length_append]
            exact r1)
          have HBZ : Hid (Buf wz B (.slice A4 b.length c4) b.length (bys b)) := Lib.hid (HSW.out.buf.grown r2 (fun k hk e => HSW.out.ap k hk e.symm))
          have HZ0 : Hid (wz.cell? ⟨gp, 0, none⟩ = some (.string (strB p.1))) := Lib.hid ((World.cell?_of_block (w := ww) (a := ⟨gp, 0, none⟩) (r2.block gp HZW.out (fun e => by have := HV5.out gp e.symm; omega))).trans HW0.out)
          have HZ1 : Hid (wz.cell? ⟨gp, 1, none⟩ = some (.string (strB p.2))) := Lib.hid ((World.cell?_of_block (w := ww) (a := ⟨gp, 1, none⟩) (r2.block gp HZW.out (fun e => by have := HV5.out gp e.symm; omega))).trans HW1.out)
          have hbwz : Below B ww wz := (Below.refl _ _).grown r2 hbw2 fun k hk => (hst5.lt k hk).1
          have HRZ : Hid (RdN wz w.heap.size 2 (some ⟨g, off, none⟩) L.length (prC2 L)) := Lib.hid (HRW.out.below (hbwz.mono (by rw [← HBE.out]; exact Nat.le_refl _)))
          have HBL : Hid (Below B w wz) := Lib.hid (HSW.out.bel.trans hbwz)
          have HZZ : Hid (gp < wz.heap.size) := Lib.hid (Nat.lt_of_lt_of_le HZW.out r2.size)
          have HSZ : Hid (w.heap.size ≤ wz.heap.size) := Lib.hid (by have := HBE.out; have := HZZ.out; have := HBR.out; omega)
          have HAPZ : Hid (∀ k, (Value.slice A4 b.length c4).ownBlock = some k → vz.ownBlock = some k → False) := Lib.hid (fun k hk hk' => by
            rcases r3 with e | e
            · exact HSW.out.ap k hk (by rw [← e]; exact hk')
            · have h1 := e k hk'
              have h2 := (HSW.out.buf.lt k hk).2
              omega)
          clear r1 r2 r3 hst5 hbwz
          have hmkz := HMZ.out
          have bz := HBZ.out
          have z0 := HZ0.out
          have z1 := HZ1.out
          have hRz := HRZ.out
          have HAH := Lib.hid (ahead_any (some ⟨g, off, none⟩) c L wz.drew (hRz.drew.up (by rw [show wz.drew.heap.size = wz.heap.size from rfl]; exact HSZ.out)) i prev (by have := HN.out; omega) (by have := HN.out; omega) HSQ.out.pre)
          rw [← HN.out] at HAH
          have HPP := Lib.hid (fun (a : List Nat) (ha : ∀ x ∈ a, x < 256) (hla : a.length ≤ 1000000) => putPair_any a p ha hla hpo wz.drew B bz.drew (by have := HSQ.out.long; omega) (Nat.le_trans HBR.out (Nat.le_of_lt HZZ.out)))
          have HAO : Hid ((∀ x ∈ ahd i prev, x < 256) ∧ (ahd i prev).length ≤ 1000000) := Lib.hid (by unfold ahd; split; exact ⟨by simp, by simp⟩; exact HSQ.out.pok)
          generalize hah : ahd i prev = ah at *
          clear bz hRz
          go_upto_region 10 with fail
          refine wp_region_noPanic ?_
          refine wp_region_held_drew (S := (fun wx => wx.cell? ⟨gp, 0, none⟩ = some (.string (strB p.1)) ∧ wx.cell? ⟨gp, 1, none⟩ = some (.string (strB p.2)))) (by kernel_rfl) (⟨z0, z1⟩) (fun hHeld => ?_)
          refine wpAnyH_take (i := 0) (v := ?_) (by simp only [List.getElem?_toArray, List.getElem?_cons_succ, List.getElem?_cons_zero]; rfl) (by kernel_rfl) (by kernel_rfl) (by kernel_rfl) (fun _ _ _ h => h) (Or.inl ⟨by rfl, ?_⟩) (by assumption) ?_
          rotate_left
          · (intro w hSw; (try dsimp only at hSw); go_simp; (try with_reducible rfl))
          (try simp only [Act.put, List.setIfInBounds_toArray, List.set_cons_zero, List.set_cons_succ])
          refine wpAnyH_take (i := 1) (v := ?_) (by simp only [List.getElem?_toArray, List.getElem?_cons_succ, List.getElem?_cons_zero]; rfl) (by kernel_rfl) (by kernel_rfl) (by kernel_rfl) (fun _ _ _ h => h) (Or.inl ⟨by rfl, ?_⟩) (by assumption) ?_
          rotate_left
          · (intro w hSw; (try dsimp only at hSw); go_simp; (try with_reducible rfl))
          (try simp only [Act.put, List.setIfInBounds_toArray, List.set_cons_zero, List.set_cons_succ])
          refine wpAnyH_take (i := 2) (v := ?_) (by simp only [List.getElem?_toArray, List.getElem?_cons_succ, List.getElem?_cons_zero]; rfl) (by kernel_rfl) (by kernel_rfl) (by kernel_rfl) (fun _ _ _ h => h) (Or.inl ⟨by rfl, ?_⟩) (by assumption) ?_
          rotate_left
          · (intro w hSw; (try dsimp only at hSw); go_simp; (try with_reducible rfl))
          (try simp only [Act.put, List.setIfInBounds_toArray, List.set_cons_zero, List.set_cons_succ])
          refine wpAnyH_take (i := 4) (v := ?_) (by simp only [List.getElem?_toArray, List.getElem?_cons_succ, List.getElem?_cons_zero]; rfl) (by kernel_rfl) (by kernel_rfl) (by kernel_rfl) (fun _ _ _ h => h) (Or.inl ⟨by rfl, ?_⟩) (by assumption) ?_
          rotate_left
          · (intro w hSw; (try dsimp only at hSw); go_simp; (try with_reducible rfl))
          (try simp only [Act.put, List.setIfInBounds_toArray, List.set_cons_zero, List.set_cons_succ])
          refine wpAnyH_ready (rs := [3]) (by kernel_rfl) (by simp) ?_
          refine AllReadyH.cons (by simp only [List.getElem?_toArray, List.getElem?_cons_succ, List.getElem?_cons_zero]; rfl) (fun K hK => ?_) AllReadyH.nil
          go_simp
          refine HAH.out.mono ?_
          rintro ee w' ⟨rfl, rfl⟩
          refine hK.out _ _ ?_ (fun hHeld => ?_)
          · exact hHeld
          clear hK K
          (try simp only [Act.put, List.setIfInBounds_toArray, List.set_cons_zero, List.set_cons_succ])
          refine wpAnyH_ready (rs := [5]) (by kernel_rfl) (by simp) ?_
          refine AllReadyH.cons (by simp only [List.getElem?_toArray, List.getElem?_cons_succ, List.getElem?_cons_zero]; rfl) (fun K hK => ?_) AllReadyH.nil
          go_simp
          refine (HPP.out ah HAO.out.1 HAO.out.2).mono ?_
          rintro ee w6 ⟨v6, rfl, T6⟩
          have k0 : w6.cell? ⟨gp, 0, none⟩ = some (.string (strB p.1)) := (World.cell?_of_block (w := wz.drew) (a := ⟨gp, 0, none⟩) (T6.grown.block gp HZZ.out (fun e => by have := HV4.out gp e.symm; omega))).trans z0
          have k1 : w6.cell? ⟨gp, 1, none⟩ = some (.string (strB p.2)) := (World.cell?_of_block (w := wz.drew) (a := ⟨gp, 1, none⟩) (T6.grown.block gp HZZ.out (fun e => by have := HV4.out gp e.symm; omega))).trans z1
          refine hK.out _ _ ?_ (fun hHeld => ?_)
          · exact ⟨k0, k1⟩
          clear hK K
          (try simp only [Act.put, List.setIfInBounds_toArray, List.set_cons_zero, List.set_cons_succ])
          refine wpAnyH_take (i := 6) (v := ?_) (by simp only [List.getElem?_toArray, List.getElem?_cons_succ, List.getElem?_cons_zero]; rfl) (by kernel_rfl) (by kernel_rfl) (by kernel_rfl) (fun _ _ _ h => h) (Or.inl ⟨by rfl, ?_⟩) (by assumption) ?_
          rotate_left
          · (intro w hSw; (try dsimp only at hSw); go_simp; (try with_reducible rfl))
          (try simp only [Act.put, List.setIfInBounds_toArray, List.set_cons_zero, List.set_cons_succ])
          refine wpAnyH_done (by kernel_rfl) ?_ _
          refine NoPanic.normal ?_
          have HT6 := Lib.hid T6
          have hlen6 : Hid ((b ++ pairB ah p).length = b.length + (pairB ah p).length) := Lib.hid (by simp)
          clear hHeld k0 k1 z0 z1 T6
          obtain ⟨A6, c6, rfl, _, _⟩ := HT6.out.buf.slice
          have hPl : (b.length + (pairB ah p).length : Int) ≤ 5000000 := by
            have h1 := pairB_len ah p
            have h2 := hpo.2.2.1
            have h3 := hpo.2.2.2
            have h4 := M.sz_le (alk ah p.1) (by have := (alk_le ah p.1).2; omega)
            have h5 := M.sz_le (p.1.length - alk ah p.1) (by omega)
            have h6 := M.sz_le p.2.length (by omega)
            have h7 := HSQ.out.long
            omega
          rw [hlen6.out] at hmkz
          generalize hpl : (pairB ah p).length = pl at *
          have HPLE := Lib.hid hpl
          clear hpl
          by_cases hbig : 262144 < b.length + pl
          · have hbig' : (262144 : Int) < (b.length : Int) + (pl : Int) := by omega
            rw [if_pos hbig] at hmkz
            have HM2 := Lib.hid hmkz
            have HF := Lib.hid ((HBL.out.drew).trans (HT6.out.below HBZ.out.drew (Nat.le_trans HBR.out (Nat.le_of_lt HZZ.out))) : Below B w w6)
            clear hmkz hbig
            have hcast : ((b.length + pl : Nat) : Int) = (b.length : Int) + (pl : Int) := by omega
            go_wp2
            go_ret2
            rw [HRE.out, HM2.out]
            exact ⟨_, rfl, Buf.nil _ _, HF.out⟩
          · have hbig' : (b.length : Int) + (pl : Int) ≤ 262144 := by omega
            rw [if_neg hbig] at hmkz
            have hcast : ((b.length + pl : Nat) : Int) = (b.length : Int) + (pl : Int) := by omega
            have HNX : Hid (MkS w B L w6 (.slice A6 (b.length + pl) c6) vz (i + 1) p.1 (b ++ pairB ah p) (st ++ [b.length])) := Lib.hid (by
              have TB := HT6.out.buf
              refine ⟨?_, ?_, ?_, ?_, hmkz, fun _ => ⟨p, by rw [Nat.add_sub_cancel]; exact HPI.out, rfl⟩, by rw [hlen6.out]; omega, ?_, ?_, hpo.1, hpo.2.2.1⟩
              · rw [hlen6.out, bys_app]; exact TB
              · exact HSTZ.out.drew.grown HT6.out.grown (fun k hk e => HAPZ.out k e.symm hk)
              · intro k hk hk'
                rcases HT6.out.own with e | e
                · exact HAPZ.out k (by rw [← e]; exact hk) hk'
                · have h1 := e k hk
                  have h2 := (HSTZ.out.lt k hk').2
                  have h3 : wz.drew.heap.size = wz.heap.size := rfl
                  omega
              · exact HBL.out.drew.trans (HT6.out.below HBZ.out.drew (Nat.le_trans HBR.out (Nat.le_of_lt HZZ.out)))
              · rw [List.length_append]; have := HSQ.out.few; simp; omega
              · intro y hy; rcases List.mem_append.1 hy with hy | hy; exact HSQ.out.small y hy; simp at hy; subst hy; exact HSQ.out.long)
            clear hmkz hbig
            go_wp2
            go_roundg (N - (i + 1))
            case measure => have := HX.out; omega
            case rel => exact ⟨i + 1, p.1, b ++ pairB ah p, (st ++ [b.length]), by omega, rfl, by go_num, HNX⟩
      · obtain ⟨q, hq⟩ : ∃ q, i = q + 1 := ⟨i - 1, by omega⟩
        obtain ⟨p0, hp0, hpn⟩ := HSQ.out.pre (by omega)
        rw [show i - 1 = q by omega] at hp0
        obtain ⟨g2, off2, e2, _, d0, _⟩ := hRq.pr q p0 hp0
        injection e2 with e2
        injection e2 with e2 e3
        subst e2
        subst e3
        rw [hpn] at d0
        have hqe : (i : Int) - 1 = (q : Int) := by omega
        have hq0 : (0 : Int) < (i : Int) := by omega
        have hq00 : 0 < i := by omega
        have hqN : (q : Int) < (N : Int) := by omega
        rw [decide_eq_true (show 0 < i by omega), Bool.true_and] at hmk
        have hll : (Op.bytesLess (strB p.1).toList (strB prev).toList || (strB p.1).toList == (strB prev).toList) = leL p.1 prev := rfl
        clear hq hpn hp0
        cases hless : leL p.1 prev with
        | true =>
          rw [hless] at hll hmk
          rw [if_pos (by rfl)] at hmk
          have HM2 := Lib.hid hmk
          have HF := Lib.hid HSQ.out.bel
          clear hmk
          cases hx : Op.bytesLess (strB p.1).toList (strB prev).toList with
          | true =>
            clear hll
            go_quiet (fail)
            have HF2 := Lib.hid (HF.out.trans ((below_drewN wq nq).mono (by have := HBR.out; omega)))
            go_wp2
            go_ret2
            rw [HRE.out, HM2.out]
            exact ⟨_, rfl, Buf.nil _ _, HF2.out⟩
          | false =>
            have hy : ((strB p.1).toList == (strB prev).toList) = true := by rw [hx, Bool.false_or] at hll; exact hll
            clear hll
            go_quiet (fail)
            have HF2 := Lib.hid (HF.out.trans ((below_drewN wq nq).mono (by have := HBR.out; omega)))
            go_wp2
            go_ret2
            rw [HRE.out, HM2.out]
            exact ⟨_, rfl, Buf.nil _ _, HF2.out⟩
        | false =>
          rw [hless] at hll hmk
          rw [if_neg (by simp)] at hmk
          rw [Bool.or_eq_false_iff] at hll
          obtain ⟨hl1, hl2⟩ := hll
          go_quiet (fail)
          clear q0 q1 hRq d0 hqe hqN hl1 hl2 hless
          obtain ⟨ww, hww⟩ : ∃ ww, ww = wq.drewN nq := ⟨_, rfl⟩
          rw [← hww]
          have HSW : Hid (MkS w B L ww u4 u5 i prev b st) := by rw [hww]; exact Lib.hid (HSW0.out.below (below_drewN _ _) (by have := HBR.out; omega))
          have HW0 : Hid (ww.cell? ⟨gp, 0, none⟩ = some (.string (strB p.1))) := by rw [hww]; exact Lib.hid HW0a.out
          have HW1 : Hid (ww.cell? ⟨gp, 1, none⟩ = some (.string (strB p.2))) := by rw [hww]; exact Lib.hid HW1a.out
          have HRW : Hid (RdN ww w.heap.size 2 (some ⟨g, off, none⟩) L.length (prC2 L)) := by rw [hww]; exact Lib.hid (HRWa.out.drewN nq)
          have HZW : Hid (gp < ww.heap.size) := by rw [hww]; exact Lib.hid HZWa.out
          clear hww
          by_cases hi8 : i % 8 = 0
          · have h8 : (i : Int) % 8 = 0 := by omega
            rw [show (if i % 8 = 0 then st ++ [b.length] else st) = st ++ [b.length] from if_pos hi8] at hmk
            have HMZ := Lib.hid hmk
            clear hmk hi8
            have hst5 := HSW.out.sts
            have hbw2 := Nat.le_trans HBR.out (Nat.le_of_lt HZW.out)
            have hfew : (st.length : Int) ≤ 1000000 := by have := HSW.out.few; omega
            have hb4l : (b.length : Int) ≤ 262144 := by have := HSW.out.long; omega
            obtain ⟨A4, c4, rfl, _, _⟩ := HSW.out.buf.slice
            go_wp2_with (at_builtin; refine wpList_append_one _ rfl (.tmp 33) (.tmp 36) 55 rfl B 3 i3 (.int .i64 0) 8 Try.underlying55 hi3 hx0 hx1 hx2 rfl rfl hst5 rfl rfl ?b1 ?b2 hbw2 ?next)
            case b1 => unfold maxLen; omega
            case b2 => omega
            case next =>
              intro vz wz r1 r2 r3
              have HSTZ : Hid (Buf wz B vz (st ++ [b.length]).length (ints (st ++ [b.length]))) := Lib.hid (by
                rw [ints_app, List.length_append]
                exact r1)
              have HBZ : Hid (Buf wz B (.slice A4 b.length c4) b.length (bys b)) := Lib.hid (HSW.out.buf.grown r2 (fun k hk e => HSW.out.ap k hk e.symm))
              have HZ0 : Hid (wz.cell? ⟨gp, 0, none⟩ = some (.string (strB p.1))) := Lib.hid ((World.cell?_of_block (w := ww) (a := ⟨gp, 0, none⟩) (r2.block gp HZW.out (fun e => by have := HV5.out gp e.symm; omega))).trans HW0.out)
              have HZ1 : Hid (wz.cell? ⟨gp, 1, none⟩ = some (.string (strB p.2))) := Lib.hid ((World.cell?_of_block (w := ww) (a := ⟨gp, 1, none⟩) (r2.block gp HZW.out (fun e => by have := HV5.out gp e.symm; omega))).trans HW1.out)
              have hbwz : Below B ww wz := (Below.refl _ _).grown r2 hbw2 fun k hk => (hst5.lt k hk).1
              have HRZ : Hid (RdN wz w.heap.size 2 (some ⟨g, off, none⟩) L.length (prC2 L)) := Lib.hid (HRW.out.below (hbwz.mono (by rw [← HBE.out]; exact Nat.le_refl _)))
              have HBL : Hid (Below B w wz) := Lib.hid (HSW.out.bel.trans hbwz)
              have HZZ : Hid (gp < wz.heap.size) := Lib.hid (Nat.lt_of_lt_of_le HZW.out r2.size)
              have HSZ : Hid (w.heap.size ≤ wz.heap.size) := Lib.hid (by have := HBE.out; have := HZZ.out; have := HBR.out; omega)
              have HAPZ : Hid (∀ k, (Value.slice A4 b.length c4).ownBlock = some k → vz.ownBlock = some k → False) := Lib.hid (fun k hk hk' => by
                rcases r3 with e | e
                · exact HSW.out.ap k hk (by rw [← e]; exact hk')
                · have h1 := e k hk'
                  have h2 := (HSW.out.buf.lt k hk).2
                  omega)
              clear r1 r2 r3 hst5 hbwz
              have hmkz := HMZ.out
              have bz := HBZ.out
              have z0 := HZ0.out
              have z1 := HZ1.out
              have hRz := HRZ.out
              have HAH := Lib.hid (ahead_any (some ⟨g, off, none⟩) c L wz.drew (hRz.drew.up (by rw [show wz.drew.heap.size = wz.heap.size from rfl]; exact HSZ.out)) i prev (by have := HN.out; omega) (by have := HN.out; omega) HSQ.out.pre)
              rw [← HN.out] at HAH
              have HPP := Lib.hid (fun (a : List Nat) (ha : ∀ x ∈ a, x < 256) (hla : a.length ≤ 1000000) => putPair_any a p ha hla hpo wz.drew B bz.drew (by have := HSQ.out.long; omega) (Nat.le_trans HBR.out (Nat.le_of_lt HZZ.out)))
              have HAO : Hid ((∀ x ∈ ahd i prev, x < 256) ∧ (ahd i prev).length ≤ 1000000) := Lib.hid (by unfold ahd; split; exact ⟨by simp, by simp⟩; exact HSQ.out.pok)
              generalize hah : ahd i prev = ah at *
              clear bz hRz
              go_upto_region 10 with fail
              refine wp_region_noPanic ?_
              refine wp_region_held_drew (S := (fun wx => wx.cell? ⟨gp, 0, none⟩ = some (.string (strB p.1)) ∧ wx.cell? ⟨gp, 1, none⟩ = some (.string (strB p.2)))) (by kernel_rfl) (⟨z0, z1⟩) (fun hHeld => ?_)
              refine wpAnyH_take (i := 0) (v := ?_) (by simp only [List.getElem?_toArray, List.getElem?_cons_succ, List.getElem?_cons_zero]; rfl) (by kernel_rfl) (by kernel_rfl) (by kernel_rfl) (fun _ _ _ h => h) (Or.inl ⟨by rfl, ?_⟩) (by assumption) ?_
              rotate_left
              · (intro w hSw; (try dsimp only at hSw); go_simp; (try with_reducible rfl))
              (try simp only [Act.put, List.setIfInBounds_toArray, List.set_cons_zero, List.set_cons_succ])
              refine wpAnyH_take (i := 1) (v := ?_) (by simp only [List.getElem?_toArray, List.getElem?_cons_succ, List.getElem?_cons_zero]; rfl) (by kernel_rfl) (by kernel_rfl) (by kernel_rfl) (fun _ _ _ h => h) (Or.inl ⟨by rfl, ?_⟩) (by assumption) ?_
              rotate_left
              · (intro w hSw; (try dsimp only at hSw); go_simp; (try with_reducible rfl))
              (try simp only [Act.put, List.setIfInBounds_toArray, List.set_cons_zero, List.set_cons_succ])
              refine wpAnyH_take (i := 2) (v := ?_) (by simp only [List.getElem?_toArray, List.getElem?_cons_succ, List.getElem?_cons_zero]; rfl) (by kernel_rfl) (by kernel_rfl) (by kernel_rfl) (fun _ _ _ h => h) (Or.inl ⟨by rfl, ?_⟩) (by assumption) ?_
              rotate_left
              · (intro w hSw; (try dsimp only at hSw); go_simp; (try with_reducible rfl))
              (try simp only [Act.put, List.setIfInBounds_toArray, List.set_cons_zero, List.set_cons_succ])
              refine wpAnyH_take (i := 4) (v := ?_) (by simp only [List.getElem?_toArray, List.getElem?_cons_succ, List.getElem?_cons_zero]; rfl) (by kernel_rfl) (by kernel_rfl) (by kernel_rfl) (fun _ _ _ h => h) (Or.inl ⟨by rfl, ?_⟩) (by assumption) ?_
              rotate_left
              · (intro w hSw; (try dsimp only at hSw); go_simp; (try with_reducible rfl))
              (try simp only [Act.put, List.setIfInBounds_toArray, List.set_cons_zero, List.set_cons_succ])
              refine wpAnyH_ready (rs := [3]) (by kernel_rfl) (by simp) ?_
              refine AllReadyH.cons (by simp only [List.getElem?_toArray, List.getElem?_cons_succ, List.getElem?_cons_zero]; rfl) (fun K hK => ?_) AllReadyH.nil
              go_simp
              refine HAH.out.mono ?_
              rintro ee w' ⟨rfl, rfl⟩
              refine hK.out _ _ ?_ (fun hHeld => ?_)
              · exact hHeld
              clear hK K
              (try simp only [Act.put, List.setIfInBounds_toArray, List.set_cons_zero, List.set_cons_succ])
              refine wpAnyH_ready (rs := [5]) (by kernel_rfl) (by simp) ?_
              refine AllReadyH.cons (by simp only [List.getElem?_toArray, List.getElem?_cons_succ, List.getElem?_cons_zero]; rfl) (fun K hK => ?_) AllReadyH.nil
              go_simp
              refine (HPP.out ah HAO.out.1 HAO.out.2).mono ?_
              rintro ee w6 ⟨v6, rfl, T6⟩
              have k0 : w6.cell? ⟨gp, 0, none⟩ = some (.string (strB p.1)) := (World.cell?_of_block (w := wz.drew) (a := ⟨gp, 0, none⟩) (T6.grown.block gp HZZ.out (fun e => by have := HV4.out gp e.symm; omega))).trans z0
              have k1 : w6.cell? ⟨gp, 1, none⟩ = some (.string (strB p.2)) := (World.cell?_of_block (w := wz.drew) (a := ⟨gp, 1, none⟩) (T6.grown.block gp HZZ.out (fun e => by have := HV4.out gp e.symm; omega))).trans z1
              refine hK.out _ _ ?_ (fun hHeld => ?_)
              · exact ⟨k0, k1⟩
              clear hK K
              (try simp only [Act.put, List.setIfInBounds_toArray, List.set_cons_zero, List.set_cons_succ])
              refine wpAnyH_take (i := 6) (v := ?_) (by simp only [List.getElem?_toArray, List.getElem?_cons_succ, List.getElem?_cons_zero]; rfl) (by kernel_rfl) (by kernel_rfl) (by kernel_rfl) (fun _ _ _ h => h) (Or.inl ⟨by rfl, ?_⟩) (by assumption) ?_
              rotate_left
              · (intro w hSw; (try dsimp only at hSw); go_simp; (try with_reducible rfl))
              (try simp only [Act.put, List.setIfInBounds_toArray, List.set_cons_zero, List.set_cons_succ])
              refine wpAnyH_done (by kernel_rfl) ?_ _
              refine NoPanic.normal ?_
              have HT6 := Lib.hid T6
              have hlen6 : Hid ((b ++ pairB ah p).length = b.length + (pairB ah p).length) := Lib.hid (by simp)
              clear hHeld k0 k1 z0 z1 T6
              obtain ⟨A6, c6, rfl, _, _⟩ := HT6.out.buf.slice
              have hPl : (b.length + (pairB ah p).length : Int) ≤ 5000000 := by
                have h1 := pairB_len ah p
                have h2 := hpo.2.2.1
                have h3 := hpo.2.2.2
                have h4 := M.sz_le (alk ah p.1) (by have := (alk_le ah p.1).2; omega)
                have h5 := M.sz_le (p.1.length - alk ah p.1) (by omega)
                have h6 := M.sz_le p.2.length (by omega)
                have h7 := HSQ.out.long
                omega
              rw [hlen6.out] at hmkz
              generalize hpl : (pairB ah p).length = pl at *
              have HPLE := Lib.hid hpl
              clear hpl
              by_cases hbig : 262144 < b.length + pl
              · have hbig' : (262144 : Int) < (b.length : Int) + (pl : Int) := by omega
                rw [if_pos hbig] at hmkz
                have HM2 := Lib.hid hmkz
                have HF := Lib.hid ((HBL.out.drew).trans (HT6.out.below HBZ.out.drew (Nat.le_trans HBR.out (Nat.le_of_lt HZZ.out))) : Below B w w6)
                clear hmkz hbig
                have hcast : ((b.length + pl : Nat) : Int) = (b.length : Int) + (pl : Int) := by omega
                go_wp2
                go_ret2
                rw [HRE.out, HM2.out]
                exact ⟨_, rfl, Buf.nil _ _, HF.out⟩
              · have hbig' : (b.length : Int) + (pl : Int) ≤ 262144 := by omega
                rw [if_neg hbig] at hmkz
                have hcast : ((b.length + pl : Nat) : Int) = (b.length : Int) + (pl : Int) := by omega
                have HNX : Hid (MkS w B L w6 (.slice A6 (b.length + pl) c6) vz (i + 1) p.1 (b ++ pairB ah p) (st ++ [b.length])) := Lib.hid (by
                  have TB := HT6.out.buf
                  refine ⟨?_, ?_, ?_, ?_, hmkz, fun _ => ⟨p, by rw [Nat.add_sub_cancel]; exact HPI.out, rfl⟩, by rw [hlen6.out]; omega, ?_, ?_, hpo.1, hpo.2.2.1⟩
                  · rw [hlen6.out, bys_app]; exact TB
                  · exact HSTZ.out.drew.grown HT6.out.grown (fun k hk e => HAPZ.out k e.symm hk)
                  · intro k hk hk'
                    rcases HT6.out.own with e | e
                    · exact HAPZ.out k (by rw [← e]; exact hk) hk'
                    · have h1 := e k hk
                      have h2 := (HSTZ.out.lt k hk').2
                      have h3 : wz.drew.heap.size = wz.heap.size := rfl
                      omega
                  · exact HBL.out.drew.trans (HT6.out.below HBZ.out.drew (Nat.le_trans HBR.out (Nat.le_of_lt HZZ.out)))
                  · rw [List.length_append]; have := HSQ.out.few; simp; omega
                  · intro y hy; rcases List.mem_append.1 hy with hy | hy; exact HSQ.out.small y hy; simp at hy; subst hy; exact HSQ.out.long)
                clear hmkz hbig
                go_wp2
                go_roundg (N - (i + 1))
                case measure => have := HX.out; omega
                case rel => exact ⟨i + 1, p.1, b ++ pairB ah p, (st ++ [b.length]), by omega, rfl, by go_num, HNX⟩
          · have h8 : ((i : Int) % 8 == 0) = false := by simp; omega
            rw [show (if i % 8 = 0 then st ++ [b.length] else st) = st from if_neg hi8] at hmk
            have HMZ := Lib.hid hmk
            clear hmk hi8
            have HSTZ := Lib.hid HSW.out.sts
            have HBZ := Lib.hid HSW.out.buf
            have HZ0 := HW0
            have HZ1 := HW1
            have HRZ := HRW
            have HBL := Lib.hid HSW.out.bel
            have HZZ := HZW
            have HSZ : Hid (w.heap.size ≤ ww.heap.size) := Lib.hid (by have := HBE.out; have := HZZ.out; have := HBR.out; omega)
            have HAPZ := Lib.hid HSW.out.ap
            generalize hwz : ww = wz at *
            clear hwz
            have hmkz := HMZ.out
            have bz := HBZ.out
            have z0 := HZ0.out
            have z1 := HZ1.out
            have hRz := HRZ.out
            have HAH := Lib.hid (ahead_any (some ⟨g, off, none⟩) c L wz.drew (hRz.drew.up (by rw [show wz.drew.heap.size = wz.heap.size from rfl]; exact HSZ.out)) i prev (by have := HN.out; omega) (by have := HN.out; omega) HSQ.out.pre)
            rw [← HN.out] at HAH
            have HPP := Lib.hid (fun (a : List Nat) (ha : ∀ x ∈ a, x < 256) (hla : a.length ≤ 1000000) => putPair_any a p ha hla hpo wz.drew B bz.drew (by have := HSQ.out.long; omega) (Nat.le_trans HBR.out (Nat.le_of_lt HZZ.out)))
            have HAO : Hid ((∀ x ∈ ahd i prev, x < 256) ∧ (ahd i prev).length ≤ 1000000) := Lib.hid (by unfold ahd; split; exact ⟨by simp, by simp⟩; exact HSQ.out.pok)
            generalize hah : ahd i prev = ah at *
            clear bz hRz
            go_upto_region 10 with fail
            refine wp_region_noPanic ?_
            refine wp_region_held_drew (S := (fun wx => wx.cell? ⟨gp, 0, none⟩ = some (.string (strB p.1)) ∧ wx.cell? ⟨gp, 1, none⟩ = some (.string (strB p.2)))) (by kernel_rfl) (⟨z0, z1⟩) (fun hHeld => ?_)
            refine wpAnyH_take (i := 0) (v := ?_) (by simp only [List.getElem?_toArray, List.getElem?_cons_succ, List.getElem?_cons_zero]; rfl) (by kernel_rfl) (by kernel_rfl) (by kernel_rfl) (fun _ _ _ h => h) (Or.inl ⟨by rfl, ?_⟩) (by assumption) ?_
            rotate_left
            · (intro w hSw; (try dsimp only at hSw); go_simp; (try with_reducible rfl))
            (try simp only [Act.put, List.setIfInBounds_toArray, List.set_cons_zero, List.set_cons_succ])
            refine wpAnyH_take (i := 1) (v := ?_) (by simp only [List.getElem?_toArray, List.getElem?_cons_succ, List.getElem?_cons_zero]; rfl) (by kernel_rfl) (by kernel_rfl) (by kernel_rfl) (fun _ _ _ h => h) (Or.inl ⟨by rfl, ?_⟩) (by assumption) ?_
            rotate_left
            · (intro w hSw; (try dsimp only at hSw); go_simp; (try with_reducible rfl))
            (try simp only [Act.put, List.setIfInBounds_toArray, List.set_cons_zero, List.set_cons_succ])
            refine wpAnyH_take (i := 2) (v := ?_) (by simp only [List.getElem?_toArray, List.getElem?_cons_succ, List.getElem?_cons_zero]; rfl) (by kernel_rfl) (by kernel_rfl) (by kernel_rfl) (fun _ _ _ h => h) (Or.inl ⟨by rfl, ?_⟩) (by assumption) ?_
            rotate_left
            · (intro w hSw; (try dsimp only at hSw); go_simp; (try with_reducible rfl))
            (try simp only [Act.put, List.setIfInBounds_toArray, List.set_cons_zero, List.set_cons_succ])
            refine wpAnyH_take (i := 4) (v := ?_) (by simp only [List.getElem?_toArray, List.getElem?_cons_succ, List.getElem?_cons_zero]; rfl) (by kernel_rfl) (by kernel_rfl) (by kernel_rfl) (fun _ _ _ h => h) (Or.inl ⟨by rfl, ?_⟩) (by assumption) ?_
            rotate_left
            · (intro w hSw; (try dsimp only at hSw); go_simp; (try with_reducible rfl))
            (try simp only [Act.put, List.setIfInBounds_toArray, List.set_cons_zero, List.set_cons_succ])
            refine wpAnyH_ready (rs := [3]) (by kernel_rfl) (by simp) ?_
            refine AllReadyH.cons (by simp only [List.getElem?_toArray, List.getElem?_cons_succ, List.getElem?_cons_zero]; rfl) (fun K hK => ?_) AllReadyH.nil
            go_simp
            refine HAH.out.mono ?_
            rintro ee w' ⟨rfl, rfl⟩
            refine hK.out _ _ ?_ (fun hHeld => ?_)
            · exact hHeld
            clear hK K
            (try simp only [Act.put, List.setIfInBounds_toArray, List.set_cons_zero, List.set_cons_succ])
            refine wpAnyH_ready (rs := [5]) (by kernel_rfl) (by simp) ?_
            refine AllReadyH.cons (by simp only [List.getElem?_toArray, List.getElem?_cons_succ, List.getElem?_cons_zero]; rfl) (fun K hK => ?_) AllReadyH.nil
            go_simp
            refine (HPP.out ah HAO.out.1 HAO.out.2).mono ?_
            rintro ee w6 ⟨v6, rfl, T6⟩
            have k0 : w6.cell? ⟨gp, 0, none⟩ = some (.string (strB p.1)) := (World.cell?_of_block (w := wz.drew) (a := ⟨gp, 0, none⟩) (T6.grown.block gp HZZ.out (fun e => by have := HV4.out gp e.symm; omega))).trans z0
            have k1 : w6.cell? ⟨gp, 1, none⟩ = some (.string (strB p.2)) := (World.cell?_of_block (w := wz.drew) (a := ⟨gp, 1, none⟩) (T6.grown.block gp HZZ.out (fun e => by have := HV4.out gp e.symm; omega))).trans z1
            refine hK.out _ _ ?_ (fun hHeld => ?_)
            · exact ⟨k0, k1⟩
            clear hK K
            (try simp only [Act.put, List.setIfInBounds_toArray, List.set_cons_zero, List.set_cons_succ])
            refine wpAnyH_take (i := 6) (v := ?_) (by simp only [List.getElem?_toArray, List.getElem?_cons_succ, List.getElem?_cons_zero]; rfl) (by kernel_rfl) (by kernel_rfl) (by kernel_rfl) (fun _ _ _ h => h) (Or.inl ⟨by rfl, ?_⟩) (by assumption) ?_
            rotate_left
            · (intro w hSw; (try dsimp only at hSw); go_simp; (try with_reducible rfl))
            (try simp only [Act.put, List.setIfInBounds_toArray, List.set_cons_zero, List.set_cons_succ])
            refine wpAnyH_done (by kernel_rfl) ?_ _
            refine NoPanic.normal ?_
            have HT6 := Lib.hid T6
            have hlen6 : Hid ((b ++ pairB ah p).length = b.length + (pairB ah p).length) := Lib.hid (by simp)
            clear hHeld k0 k1 z0 z1 T6
            obtain ⟨A6, c6, rfl, _, _⟩ := HT6.out.buf.slice
            have hPl : (b.length + (pairB ah p).length : Int) ≤ 5000000 := by
              have h1 := pairB_len ah p
              have h2 := hpo.2.2.1
              have h3 := hpo.2.2.2
              have h4 := M.sz_le (alk ah p.1) (by have := (alk_le ah p.1).2; omega)
              have h5 := M.sz_le (p.1.length - alk ah p.1) (by omega)
              have h6 := M.sz_le p.2.length (by omega)
              have h7 := HSQ.out.long
              omega
            rw [hlen6.out] at hmkz
            generalize hpl : (pairB ah p).length = pl at *
            have HPLE := Lib.hid hpl
            clear hpl
            by_cases hbig : 262144 < b.length + pl
            · have hbig' : (262144 : Int) < (b.length : Int) + (pl : Int) := by omega
              rw [if_pos hbig] at hmkz
              have HM2 := Lib.hid hmkz
              have HF := Lib.hid ((HBL.out.drew).trans (HT6.out.below HBZ.out.drew (Nat.le_trans HBR.out (Nat.le_of_lt HZZ.out))) : Below B w w6)
              clear hmkz hbig
              have hcast : ((b.length + pl : Nat) : Int) = (b.length : Int) + (pl : Int) := by omega
              go_wp2
              go_ret2
              rw [HRE.out, HM2.out]
              exact ⟨_, rfl, Buf.nil _ _, HF.out⟩
            · have hbig' : (b.length : Int) + (pl : Int) ≤ 262144 := by omega
              rw [if_neg hbig] at hmkz
              have hcast : ((b.length + pl : Nat) : Int) = (b.length : Int) + (pl : Int) := by omega
              have HNX : Hid (MkS w B L w6 (.slice A6 (b.length + pl) c6) u5 (i + 1) p.1 (b ++ pairB ah p) st) := Lib.hid (by
                have TB := HT6.out.buf
                refine ⟨?_, ?_, ?_, ?_, hmkz, fun _ => ⟨p, by rw [Nat.add_sub_cancel]; exact HPI.out, rfl⟩, by rw [hlen6.out]; omega, ?_, ?_, hpo.1, hpo.2.2.1⟩
                · rw [hlen6.out, bys_app]; exact TB
                · exact HSTZ.out.drew.grown HT6.out.grown (fun k hk e => HAPZ.out k e.symm hk)
                · intro k hk hk'
                  rcases HT6.out.own with e | e
                  · exact HAPZ.out k (by rw [← e]; exact hk) hk'
                  · have h1 := e k hk
                    have h2 := (HSTZ.out.lt k hk').2
                    have h3 : wz.drew.heap.size = wz.heap.size := rfl
                    omega
                · exact HBL.out.drew.trans (HT6.out.below HBZ.out.drew (Nat.le_trans HBR.out (Nat.le_of_lt HZZ.out)))
                · have := HSQ.out.few; omega
                · exact HSQ.out.small)
              clear hmkz hbig
              go_wp2
              go_roundg (N - (i + 1))
              case measure => have := HX.out; omega
              case rel => exact ⟨i + 1, p.1, b ++ pairB ah p, st, by omega, rfl, by go_num, HNX⟩
    · obtain rfl : i = N := by omega
      have hmk := HS.out.made
      have hdr : L.drop i = [] := List.drop_eq_nil_of_le (by have := HN.out; omega)
      rw [hdr, mkGo] at hmk
      have HMZ := Lib.hid hmk
      have hst6 : (st.length : Int) ≤ 1000000 := by have := HS.out.few; omega
      have hbl : (b.length : Int) ≤ 262144 := by have := HS.out.long; omega
      obtain ⟨A5, c5, rfl, _, hr5⟩ := HS.out.sts.slice
      have HA5 := Lib.hid hr5
      have hB0 : B ≤ wr.heap.size := by rw [HBE.out]; have := HS.out.bel.size; exact this
      have HST := HS
      obtain ⟨w9, hw9⟩ : ∃ w9, w9 = wr := ⟨_, rfl⟩
      rw [← hw9] at HST hB0 HA5 ⊢
      clear hmk hdr HS hr5 hw9
      generalize u4 = va at *
      go_upto_region 15 with fail
      go_loopg [4, 9, 50] st.length (fun kx v4 v9 v50 wr => ∃ j : Nat, j ≤ st.length ∧ kx = st.length - j ∧ v50 = .int .i64 (j : Int) ∧ Hid (Laid w9 B va wr v4 (b.length + 4 * j) (bys b ++ bys (les (st.take j)))))
      case atStart => exact ⟨0, Nat.zero_le _, rfl, rfl, Lib.hid (by simpa [les, bys] using Laid.refl HST.out.buf)⟩
      case round =>
        obtain ⟨j, hj, hkx, rfl, HT⟩ := hrel
        have HJ := Lib.hid hkx
        clear hkx
        by_cases hlj : j < st.length
        · have hlj' : (j : Int) < (st.length : Int) := by omega
          have hs9 := HT.out.grown.size
          have HSB : Hid (Buf wr B (.slice A5 st.length c5) st.length (ints st)) := Lib.hid (HST.out.sts.grown HT.out.grown (fun k hk e => HST.out.ap k e.symm hk))
          obtain ⟨A', c', e', _, hr'⟩ := HSB.out.slice
          injection e' with e1 e2 e3
          subst e1
          subst e3
          obtain ⟨g5, o5, u5', rfl, _, hu, hcell⟩ := hr'.at_ (k := j) hlj
          rw [ints_get st j hlj] at hu
          injection hu with hu
          subst hu
          have HTS : Hid (les (st.take (j + 1)) = les (st.take j) ++ M.leB (st.getD j 0) 4) := Lib.hid (by rw [take_snoc' st j hlj, les_snoc])
          have hsm : st.getD j 0 ≤ 262144 := by
            have : st.getD j 0 = st[j] := by simp [List.getD, hlj]
            rw [this]; exact HST.out.small _ (List.getElem_mem hlj)
          have HPL := Lib.hid (putLittle_any ((st.getD j 0 : Nat) : Int) (by omega) (by omega) 4 wr B HT.out.buf (by omega) (Nat.le_trans hB0 hs9))
          rw [Int.toNat_natCast, lit4 0] at HPL
          generalize st.getD j 0 = y at *
          have hyi : (y : Int) ≤ 262144 := by omega
          clear hr'
          go_wp2_with fail
          refine HPL.out.mono ?_
          rintro e w7 ⟨v7, rfl, T7⟩
          have HT7 : Hid (Laid w9 B va w7 v7 (b.length + 4 * (j + 1)) (bys b ++ bys (les (st.take (j + 1))))) := Lib.hid (by
            have := HT.out.trans T7
            rw [HTS.out, bys_app, ← List.append_assoc, show b.length + 4 * (j + 1) = b.length + 4 * j + 4 by omega]
            exact this)
          clear T7 hcell HPL
          go_wp2
          go_roundg (st.length - (j + 1))
          case measure => have := HJ.out; omega
          case rel => exact ⟨j + 1, by omega, rfl, by go_num, HT7⟩
        · obtain rfl : j = st.length := by omega
          have hs9 := HT.out.grown.size
          have HPL := Lib.hid (putLittle_any ((st.length : Nat) : Int) (by omega) (by omega) 4 wr B HT.out.buf (by omega) (Nat.le_trans hB0 hs9))
          rw [Int.toNat_natCast, lit4 0] at HPL
          go_wp2_with fail
          refine HPL.out.mono ?_
          rintro e w7 ⟨v7, rfl, T7⟩
          have HTT := Lib.hid (HT.out.trans T7)
          have HBB := Lib.hid (HST.out.bel.trans (HTT.out.below HST.out.buf hB0))
          have HLL : Hid ((b ++ les st ++ M.leB st.length 4).length = b.length + 4 * st.length + 4) := Lib.hid (by simp [les_len, M.leB_len]; omega)
          clear T7 HPL
          go_wp2
          go_ret2
          rw [HRE.out, HMZ.out]
          refine ⟨_, rfl, ?_, HBB.out⟩
          rw [HLL.out]
          have := HTT.out.buf
          simpa [bys_app, List.append_assoc] using this
end Go.Proofs.Ytalcdmpjpphopaa
