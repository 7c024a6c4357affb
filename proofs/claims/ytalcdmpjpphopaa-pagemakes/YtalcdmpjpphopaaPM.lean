/- The walk of PageMakes. -/
import Derived.Test.YtalcdmpjpphopaaPC
import Derived.Test.YtalcdmpjpphopaaPE
import Derived.Test.YtalcdmpjpphopaaP6
import Derived.Deep.CutBlock
import Derived.Deep.DeepCutAuto
namespace Go.Proofs.Ytalcdmpjpphopaa
set_option linter.unusedSimpArgs false
set_option linter.unusedVariables false
open Go.RowKit

theorem alk_more : ∀ (a b : List Nat) (k : Nat), k ≤ alk a b → k < a.length → k < b.length → (a.take (k + 1) = b.take (k + 1) ↔ k < alk a b)
  | [], b, k, _, h, _ => by simp at h
  | x :: a, [], k, _, _, h => by simp at h
  | x :: a, y :: b, 0, _, _, _ => by
    rw [alk]
    split
    · next h => subst h; simp
    · next h => simp [h]
  | x :: a, y :: b, k + 1, h, h1, h2 => by
    rw [alk] at h ⊢
    split at h
    · next e =>
      subst e
      rw [if_pos rfl]
      have := alk_more a b k (by omega) (by simpa using h1) (by simpa using h2)
      rw [List.take_succ_cons, List.take_succ_cons, List.cons.injEq]
      simp only [true_and]
      rw [this]
      omega
    · omega
/-- What the law has laid so far. -/
structure MwS (w0 : World) (B : Nat) (L : List Pr) (wr : World) (v5 v6 : Value) (i : Nat) (prev b st : List Nat) : Prop where
  buf : Buf wr B v5 b.length (bys b)
  pl : Buf wr B v6 (les st).length (bys (les st))
  ap : ∀ k, v5.ownBlock = some k → v6.ownBlock = some k → False
  bel : Below B w0 wr
  made : mk L = mkGo i prev b st (L.drop i)
  pre : 0 < i → ∃ p, L[i - 1]? = some p ∧ p.1 = prev
  long : b.length ≤ 1000 * i
  few : st.length ≤ i
/-- .. of a pair, within a round. -/
structure MwQ (w0 : World) (B : Nat) (wr : World) (v5 v6 : Value) (gp : Nat) (nm vl b st : List Nat) : Prop where
  buf : Buf wr B v5 b.length (bys b)
  pl : Buf wr B v6 (les st).length (bys (les st))
  ap : ∀ k, v5.ownBlock = some k → v6.ownBlock = some k → False
  bel : Below B w0 wr
  c0 : wr.cell? ⟨gp, 0, none⟩ = some (.string (strB nm))
  c1 : wr.cell? ⟨gp, 1, none⟩ = some (.string (strB vl))
  n5 : v5.ownBlock ≠ some gp
  n6 : v6.ownBlock ≠ some gp
theorem MwQ.below {w0 wr w' : World} {B : Nat} {v5 v6 : Value} {gp : Nat} {nm vl b st : List Nat} (h : MwQ w0 B wr v5 v6 gp nm vl b st) (hb : Below wr.heap.size wr w') (hB : B ≤ wr.heap.size) : MwQ w0 B w' v5 v6 gp nm vl b st :=
  ⟨h.buf.below hb (fun k hk => (h.buf.lt k hk).2), h.pl.below hb (fun k hk => (h.pl.lt k hk).2), h.ap, h.bel.trans (hb.mono hB),
   (hb.cell (p := ⟨gp, 0, none⟩) (World.block_lt_of_cell? _ _ h.c0)).trans h.c0, (hb.cell (p := ⟨gp, 1, none⟩) (World.block_lt_of_cell? _ _ h.c1)).trans h.c1, h.n5, h.n6⟩
/-- The row of places is laid on. -/
theorem MwQ.place {w0 wr w' : World} {B : Nat} {v5 v6 v' : Value} {gp : Nat} {nm vl b st st' : List Nat} (h : MwQ w0 B wr v5 v6 gp nm vl b st) (T : Laid wr B v6 w' v' (les st').length (bys (les st'))) (hB : B ≤ wr.heap.size) : MwQ w0 B w' v5 v' gp nm vl b st' := by
  have hg : gp < wr.heap.size := World.block_lt_of_cell? _ _ h.c0
  have hk := T.grown.block gp hg (fun e => h.n6 e.symm)
  refine ⟨h.buf.grown T.grown (fun k hk e => h.ap k hk e.symm), T.buf, fun k hk hk' => ?_, h.bel.trans (T.below h.pl hB), (World.cell?_of_block (w := wr) (a := ⟨gp, 0, none⟩) hk).trans h.c0, (World.cell?_of_block (w := wr) (a := ⟨gp, 1, none⟩) hk).trans h.c1, h.n5, fun e => ?_⟩
  · rcases T.own with e | e
    · exact h.ap k hk (by rw [← e]; exact hk')
    · have h1 := e k hk'
      have h2 := (h.buf.lt k hk).2
      omega
  · rcases T.own with e1 | e1
    · exact h.n6 (by rw [← e1]; exact e)
    · have := e1 gp e; omega
/-- The row of bytes is laid on. -/
theorem MwQ.lay {w0 wr w' : World} {B : Nat} {v5 v6 v' : Value} {gp n' : Nat} {nm vl b b' st : List Nat} (h : MwQ w0 B wr v5 v6 gp nm vl b st) (T : Laid wr B v5 w' v' n' (bys b')) (hB : B ≤ wr.heap.size) : MwQ w0 B w' v' v6 gp nm vl b' st := by
  have hg : gp < wr.heap.size := World.block_lt_of_cell? _ _ h.c0
  have hk := T.grown.block gp hg (fun e => h.n5 e.symm)
  have hn : n' = b'.length := by have := T.buf.len; rw [bys_len] at this; omega
  refine ⟨hn ▸ T.buf, h.pl.grown T.grown (fun k hk e => h.ap k e.symm hk), fun k hk hk' => ?_, h.bel.trans (T.below h.buf hB), (World.cell?_of_block (w := wr) (a := ⟨gp, 0, none⟩) hk).trans h.c0, (World.cell?_of_block (w := wr) (a := ⟨gp, 1, none⟩) hk).trans h.c1, fun e => ?_, h.n6⟩
  · rcases T.own with e | e
    · exact h.ap k (by rw [← e]; exact hk) hk'
    · have h1 := e k hk
      have h2 := (h.pl.lt k hk').2
      omega
  · rcases T.own with e1 | e1
    · exact h.n5 (by rw [← e1]; exact e)
    · have := e1 gp e; omega
theorem operwp_append_runu {P : Program} {w : World} {o : Oper} {a : Act} {Q : Exit → Act → World → Prop} {K : Act → World → Prop} {g : Bool} {E : Prop} (hgd : g = true) (s x : Operand) (t u : TypeId)
    (ho : o.op = .call { callee := .builtin .append, args := #[s, x], argTypes := #[t, u] }) {v y v' : Value} {w' : World} (hs : a.eval s = v) (hx : a.eval x = y) (hrun : (Builtin.append_ #[t, u] o.type #[v, y]).run P w = .ok v' w')
    (hK : K (a.put o.dst v') w') : if g = true then Oper.wp P o a w K Q else E := by
  rw [if_pos hgd]
  unfold Oper.wp
  simp [execOp, ho, resolve, invoke, builtin, hs, hx, hrun, Result.andThen]
  exact hK

set_option maxHeartbeats 8000000 in
set_option maxRecDepth 100000 in
theorem makes_walk (A : Option Addr) (c : Nat) (L : List Pr) (w : World) (hr : RdN w w.heap.size 2 A L.length (prC2 L)) (hf : ∀ p ∈ L, fitP p) (hlen : L.length ≤ maxLen) :
    Calls Try.prog 3 #[.slice A L.length c] w fun e w' => e = .returned (.bool true) ∧ Below w.heap.size w w' := by
  obtain ⟨i0, hi, hz0, hz1, hz2⟩ := info_parts Try.info5
  have HBIG := Lib.hid (fun W (hb : Below w.heap.size w W) => big_any'' A c L W ((hr.below hb).up hb.size) hf hlen)
  have HR := Lib.hid hr
  have HS := Lib.hid hf
  have hlen' : (L.length : Int) ≤ 9223372036854775807 := by unfold maxLen at hlen; omega
  obtain ⟨bg, hbg⟩ : ∃ bg, bg = bigP L := ⟨_, rfl⟩
  rw [← hbg] at HBIG
  have HBG := Lib.hid hbg
  clear hr hf hlen hbg
  obtain ⟨N, hN⟩ : ∃ N, N = L.length := ⟨_, rfl⟩
  rw [← hN] at HBIG hlen' ⊢
  have HN := Lib.hid hN
  clear hN
  go_enter Try.func3, Try.ntmps3
  go_upto_region 3 with (go_at_call 9; refine (head_any _).mono ?_; rintro e w1 ⟨rfl, hb1⟩)
  have HB1 := Lib.hid hb1
  have s1 := hb1.size
  clear hb1
  go_wp2_with fail
  refine (HBIG.out _ HB1.out).mono ?_
  rintro e w2 ⟨rfl, hb2⟩
  have HB2 := Lib.hid (HB1.out.trans (hb2.mono s1))
  clear HBIG hb2
  cases bg with
  | true =>
    go_wp2
    go_ret
    exact ⟨rfl, HB2.out⟩
  | false =>
    have hno := bigP_no L HBG.out.symm
    have h60 : (N : Int) ≤ 60 := by have := hno.1; have := HN.out; omega
    have HOK : Hid (∀ p ∈ L, okP p) := Lib.hid (fun p hp => ⟨(HS.out p hp).1, (HS.out p hp).2.1, by have := hno.2 p hp; omega, by have := hno.2 p hp; omega⟩)
    have HSM : Hid (∀ p ∈ L, p.1.length ≤ 300 ∧ p.2.length ≤ 300) := Lib.hid hno.2
    have HLB : Hid (∀ p ∈ L, (∀ x ∈ p.1, x < 256) ∧ ∀ x ∈ p.2, x < 256) := Lib.hid (fun p hp => ⟨(HS.out p hp).1, (HS.out p hp).2.1⟩)
    have HM1 := Lib.hid (make_any A c L w2 ((HR.out.below HB2.out).up HB2.out.size) HOK.out (by have := HN.out; omega))
    rw [← HN.out] at HM1
    obtain ⟨b0, hb0⟩ : ∃ b0, b0 = (mk L).1 := ⟨_, rfl⟩
    obtain ⟨ev, hev⟩ : ∃ ev, ev = (mk L).2 := ⟨_, rfl⟩
    rw [← hb0, ← hev] at HM1
    have HB0E := Lib.hid hb0
    have HEVE := Lib.hid hev
    clear hno HBG hb0 hev
    go_wp2_with fail
    refine HM1.out.mono ?_
    rintro e w3 ⟨v3, rfl, hf3, hb3⟩
    have HB3 := Lib.hid (HB2.out.trans (hb3.mono HB2.out.size))
    have hq7 : ∃ A7 c7, v3 = .slice A7 b0.length c7 ∧ b0.length ≤ c7 ∧ c7 ≤ maxLen ∧ Rd w3 w3.heap.size A7 b0.length (bys b0) := by
      obtain ⟨A, c, rfl, h1, h2⟩ := hf3.slice
      exact ⟨A, c, rfl, h1, hf3.cap_le, h2⟩
    obtain ⟨A7, c7, rfl, hm7, hc7, hr7⟩ := hq7
    have HR7 := Lib.hid hr7
    have HM7 := Lib.hid hm7
    have HC7 := Lib.hid hc7
    have HR3 := Lib.hid ((HR.out.below HB3.out).up HB3.out.size)
    clear hf3 hb3 HM1 hr7 hm7 hc7
    go_upto_region 8 with fail
    have b4 : Below w3.heap.size w3 (w3.alloc (.cells #[] 5)) := (Below.refl _ _).alloc (Nat.le_refl _) _
    have b5 : Below w3.heap.size w3 ((w3.alloc (.cells #[] 5)).alloc (.cells #[] 5)) := b4.alloc b4.size _
    have e4 : (w3.alloc (.cells #[] 5)).heap.size = w3.heap.size + 1 := by simp
    have S0 : MwS w3 w3.heap.size L ((w3.alloc (.cells #[] 5)).alloc (.cells #[] 5)) (.slice (some ⟨w3.heap.size, 0, none⟩) 0 0) (.slice (some ⟨w3.heap.size + 1, 0, none⟩) 0 0) 0 [] [] [] := by
      refine ⟨(Buf.new w3 w3.heap.size 5 #[] (0, 0) (Nat.le_refl _) (by simp)).alloc _, ?_, fun k hk hk' => ?_, b5, rfl, fun h => absurd h (by omega), by simp, by simp⟩
      · have := Buf.new (w3.alloc (.cells #[] 5)) w3.heap.size 5 #[] (0, 0) b4.size (by simp)
        rw [e4] at this
        exact this
      · have h1 : w3.heap.size = k := Option.some.inj hk
        have h2 : w3.heap.size + 1 = k := Option.some.inj hk'
        omega
    generalize ((w3.alloc (.cells #[] 5)).alloc (.cells #[] 5)) = w5 at *
    generalize (Value.slice (some ⟨w3.heap.size, 0, none⟩) 0 0) = va0 at *
    generalize (Value.slice (some ⟨w3.heap.size + 1, 0, none⟩) 0 0) = vb0 at *
    obtain ⟨B, hB⟩ : ∃ B, B = w3.heap.size := ⟨_, rfl⟩
    rw [← hB] at S0
    have HB := Lib.hid hB
    have HS0 := Lib.hid S0
    clear b4 b5 e4 S0 hB
    go_upto_region 10 with fail
    go_loopg [5, 6, 7, 27] N (fun kx v5 v6 v7 v27 wr => ∃ (i : Nat) (prev b st : List Nat), i ≤ N ∧ kx = N - i ∧ v27 = .int .i64 (i : Int) ∧ v7 = .int .i64 ((st.length : Nat) : Int) ∧ Hid (MwS w3 B L wr v5 v6 i prev b st))
    case atStart => exact ⟨0, [], [], [], Nat.zero_le _, rfl, rfl, rfl, HS0⟩
    case round =>
      obtain ⟨i, prev, b, st, hiN, hkx, rfl, rfl, HW⟩ := hrel
      have HX := Lib.hid hkx
      have HBw : Hid (B ≤ wr.heap.size) := Lib.hid (by have := HW.out.bel.size; have := HB.out; omega)
      clear hkx HS0
      have hstl : (st.length : Int) ≤ 60 := by have := HW.out.few; omega
      by_cases hlt : i < N
      · have hlt' : (i : Int) < (N : Int) := by omega
        obtain ⟨p, hp⟩ : ∃ p, L[i]? = some p := ⟨_, List.getElem?_eq_getElem (by have := HN.out; omega)⟩
        have HD : Hid (L.drop i = p :: L.drop (i + 1)) := Lib.hid (by
          obtain ⟨h1, rfl⟩ := List.getElem?_eq_some_iff.1 hp
          exact List.drop_eq_getElem_cons h1)
        have hmk := HW.out.made
        rw [HD.out, mkGo] at hmk
        have HMK := Lib.hid hmk
        have HOKP := Lib.hid (HOK.out p (List.mem_of_getElem? hp))
        have HSMP := Lib.hid (HSM.out p (List.mem_of_getElem? hp))
        have HPI := Lib.hid hp
        have HBL := Lib.hid (HW.out.bel)
        obtain ⟨g, off, rfl, hgB, c0, c1⟩ := (HR3.out.below (by rw [← HB.out]; exact HW.out.bel)).pr i p hp
        obtain ⟨nm, vl⟩ := p
        simp only at c0 c1 HMK HOKP HSMP HD
        go_upto_region 12 with fail
        obtain ⟨wq, hwq⟩ : ∃ wq, wq = wr.alloc (.cells #[.string (strB nm), .string (strB vl)] 30) := ⟨_, rfl⟩
        rw [← hwq]
        obtain ⟨gp, hgp⟩ : ∃ gp, gp = wr.heap.size := ⟨_, rfl⟩
        rw [← hgp]
        have bq : Below wr.heap.size wr wq := by rw [hwq]; exact (Below.refl _ _).alloc (Nat.le_refl _) _
        have X0 : Bx2 wq gp (.string (strB nm)) (.string (strB vl)) := by rw [hwq, hgp]; exact Bx2.new wr _ _ _
        have HQ : Hid (MwQ w3 B wq u5 u6 gp nm vl b st) := Lib.hid ⟨HW.out.buf.below bq (fun k hk => (HW.out.buf.lt k hk).2), HW.out.pl.below bq (fun k hk => (HW.out.pl.lt k hk).2), HW.out.ap, HW.out.bel.trans (bq.mono HBw.out), X0.c0, X0.c1, fun e => by have := (HW.out.buf.lt gp e).2; omega, fun e => by have := (HW.out.pl.lt gp e).2; omega⟩
        have HBq : Hid (B ≤ wq.heap.size) := Lib.hid (Nat.le_trans HBw.out bq.size)
        have x0 := X0.c0
        have hlq : gp < wq.heap.size := X0.lt
        have HP0 : Hid (∀ q pq, i = q + 1 → L[q]? = some pq → wq.cell? ⟨g, off + q * 2, none⟩ = some (.string (strB pq.1))) := Lib.hid (fun q pq hq hpq => by
          obtain ⟨g2, off2, e2, hg2, d0, _⟩ := (HR3.out.below (by rw [← HB.out]; exact HW.out.bel.trans (bq.mono HBw.out))).pr q pq hpq
          injection e2 with e2
          injection e2 with e2 e3 _
          rw [e2, e3]
          exact d0)
        have hg3 : g < wq.heap.size := by have := HBq.out; have := HB.out; omega
        have HPRE := Lib.hid HW.out.pre
        have HLONG := Lib.hid HW.out.long
        have HFEW := Lib.hid HW.out.few
        clear hp hmk c0 c1 hwq hgp bq X0 HW HBw hgB
        obtain ⟨K0, hK0⟩ : ∃ K0, K0 = (if i = 0 then 0 else alk prev nm) := ⟨_, rfl⟩
        have HK0 := Lib.hid hK0
        clear hK0
        have hnl := HSMP.out.1
        have hvl := HSMP.out.2
        have hzn := strB_size nm
        have hzv := strB_size vl
        go_upto_if 33 with fail
        go_cut [10, 27] from 27 to 113 (fun s10 s27 wx => s10 = .int .i64 (K0 : Int) ∧ s27 = .int .i64 (i : Int) ∧ Hid (Below wq.heap.size wq wx) ∧ Hid ((decide (0 < i) && leL nm prev) = false))
        case first =>
          by_cases hi0 : i = 0
          · subst hi0
            have hd : decide ((0 : Int) < ((0 : Nat) : Int)) = false := by decide
            go_wp2
            go_meet
            exact ⟨by rw [HK0.out]; rfl, rfl, Lib.hid (Below.refl _ _), Lib.hid rfl⟩
          · obtain ⟨q, hq⟩ : ∃ q, i = q + 1 := ⟨i - 1, by omega⟩
            obtain ⟨pq, hpq, hpn⟩ := HPRE.out (by omega)
            rw [show i - 1 = q by omega] at hpq
            have d0 := HP0.out q pq hq hpq
            rw [hpn] at d0
            have hprev : prev.length ≤ 300 ∧ ∀ x ∈ prev, x < 256 := by
              rw [← hpn]
              exact ⟨(HSM.out pq (List.mem_of_getElem? hpq)).1, (HLB.out pq (List.mem_of_getElem? hpq)).1⟩
            have HPV := Lib.hid hprev
            have hpl := hprev.1
            have hqe : (i : Int) - 1 = (q : Int) := by omega
            have hq0 : (0 : Int) < (i : Int) := by omega
            have hqN : (q : Int) < (N : Int) := by omega
            have hqN2 : q < N := by omega
            have hzp := strB_size prev
            have HQQ := Lib.hid hq
            have HI0 := Lib.hid hi0
            have HZ2 : Hid ((strB prev).size = prev.length ∧ (strB nm).size = nm.length) := Lib.hid ⟨hzp, hzn⟩
            clear hq hpq hpn hprev hi0
            have hll : (Op.bytesLess (strB nm).toList (strB prev).toList || (strB nm).toList == (strB prev).toList) = leL nm prev := rfl
            cases hless : leL nm prev with
            | true =>
              have hmk := HMK.out
              rw [hless, decide_eq_true (show 0 < i by have := HI0.out; omega), Bool.and_self, if_pos rfl] at hmk
              have hb0 : b0 = [] := by rw [HB0E.out, hmk]
              have he0 : ev = 1 := by rw [HEVE.out, hmk]
              have HF := Lib.hid HQ.out.bel
              subst hb0
              subst he0
              rw [hless] at hll
              have h1 := hll
              clear hmk hless
              cases hx : Op.bytesLess (strB nm).toList (strB prev).toList with
              | true =>
                clear hll h1
                go_wp2
                go_ret
                exact ⟨rfl, HB3.out.trans (HF.out.mono (by have := HB3.out.size; have := HB.out; omega))⟩
              | false =>
                rw [hx, Bool.false_or] at h1
                clear hll
                go_wp2
                go_ret
                exact ⟨rfl, HB3.out.trans (HF.out.mono (by have := HB3.out.size; have := HB.out; omega))⟩
            | false =>
              rw [hless] at hll
              have hx : Op.bytesLess (strB nm).toList (strB prev).toList = false := by
                cases h : Op.bytesLess (strB nm).toList (strB prev).toList with
                | true => rw [h] at hll; cases hll
                | false => rfl
              have hx2 : ((strB nm).toList == (strB prev).toList) = false := by rw [hx, Bool.false_or] at hll; exact hll
              have HLS : Hid ((decide (0 < i) && leL nm prev) = false) := Lib.hid (by rw [hless, Bool.and_false])
              have HKA : Hid (K0 = alk prev nm) := Lib.hid (by rw [HK0.out, if_neg HI0.out])
              clear hll hless
              go_upto_block 2 with fail
              clear d0 hx hx2 hqe hq0
              have HQC0 := Lib.hid HQ.out.c0
              go_wp2_with fail
              go_loopg [10] prev.length (fun kx s10 wx => ∃ k : Nat, s10 = .int .i64 (k : Int) ∧ k ≤ K0 ∧ prev.length - k ≤ kx ∧ Hid (Below wq.heap.size wq wx))
              case atStart => exact ⟨0, rfl, Nat.zero_le _, Nat.le_refl _, Lib.hid (Below.refl _ _)⟩
              case round =>
                obtain ⟨k, rfl, hkK, hkx2, HWk⟩ := hrel
                have HKX := Lib.hid hkx2
                have HKK := Lib.hid hkK
                have hk300 : (k : Int) ≤ 300 := by have := HKA.out; have := (alk_le prev nm).1; omega
                have y0 := (HWk.out.cell (p := ⟨gp, 0, none⟩) hlq).trans HQC0.out
                have HY0 : Hid (∀ wx, Below wr.heap.size wr wx → wx.cell? ⟨gp, 0, none⟩ = some (.string (strB nm))) := Lib.hid (fun wx hb => (hb.cell (p := ⟨gp, 0, none⟩) (Nat.lt_of_lt_of_le hlq HWk.out.size)).trans y0)
                clear hkx2 hkK x0
                by_cases h1 : k < prev.length
                · have h1' : (k : Int) < (prev.length : Int) := by omega
                  by_cases h2 : k < nm.length
                  · have h2' : (k : Int) < (nm.length : Int) := by omega
                    obtain ⟨k1, hk1⟩ : ∃ k1, k1 = k + 1 := ⟨_, rfl⟩
                    have hkk : (k : Int) + 1 = (k1 : Int) := by omega
                    have hwk : IntKind.i64.wrap (k1 : Int) = (k1 : Int) := IntWalk.i64_in _ (by omega)
                    have hk1p : (k1 : Int) ≤ (prev.length : Int) := by omega
                    have hk1n : (k1 : Int) ≤ (nm.length : Int) := by omega
                    have hsx := strB_take0 prev k1
                    have hsy := strB_take0 nm k1
                    have hcm : ((strB (prev.take k1)).toList == (strB (nm.take k1)).toList) = decide (k < K0) := by
                      rw [strB_beq _ _ (fun x hx => HPV.out.2 x (List.mem_of_mem_take hx)) (fun x hx => HOKP.out.1 x (List.mem_of_mem_take hx)), decide_eq_decide, hk1, HKA.out]
                      exact alk_more prev nm k (by have := HKK.out; have := HKA.out; omega) h1 h2
                    have HK1 := Lib.hid hk1
                    clear hk1
                    generalize strB (prev.take k1) = S1 at *
                    generalize strB (nm.take k1) = S2 at *
                    by_cases hkK : k < K0
                    · rw [decide_eq_true hkK] at hcm
                      go_upto_region 17 with fail
                      refine wp_region_noPanic ?_
                      refine wp_region_held_drew (S := (fun wx => Below wr.heap.size wr wx ∧ wx.cell? ⟨gp, 0, none⟩ = some (.string (strB nm)))) (by kernel_rfl) (⟨(Below.refl _ _).drew, HY0.out _ (Below.refl _ _).drew⟩) (fun hHeld => ?_)
                      refine wpAnyH_take (i := 0) (v := ?_) (by simp only [List.getElem?_toArray, List.getElem?_cons_succ, List.getElem?_cons_zero]; rfl) (by kernel_rfl) (by kernel_rfl) (by kernel_rfl) (fun _ _ _ h => h) (Or.inl ⟨by rfl, ?_⟩) (by assumption) ?_
                      rotate_left
                      · (intro w hSw; (try dsimp only at hSw); go_simp; (try with_reducible rfl))
                      (try simp only [Act.put, List.setIfInBounds_toArray, List.set_cons_zero, List.set_cons_succ])
                      refine wpAnyH_take (i := 1) (v := ?_) (by simp only [List.getElem?_toArray, List.getElem?_cons_succ, List.getElem?_cons_zero]; rfl) (by kernel_rfl) (by kernel_rfl) (by kernel_rfl) (fun _ _ _ h => h) (Or.inl ⟨by rfl, ?_⟩) (by assumption) ?_
                      rotate_left
                      · (intro w hSw; (try dsimp only at hSw); go_simp; (try with_reducible rfl))
                      (try simp only [Act.put, List.setIfInBounds_toArray, List.set_cons_zero, List.set_cons_succ])
                      refine wpAnyH_take (i := 2) (v := ?_) (by simp only [List.getElem?_toArray, List.getElem?_cons_succ, List.getElem?_cons_zero]; rfl) (by kernel_rfl) (by kernel_rfl) (by kernel_rfl) (fun _ _ _ h => h) (Or.inl ⟨by rfl, ?_⟩) (by assumption) ?_
                      rotate_left
                      · (intro w hSw; (try dsimp only at hSw); go_simp; (try with_reducible rfl))
                      (try simp only [Act.put, List.setIfInBounds_toArray, List.set_cons_zero, List.set_cons_succ])
                      refine wpAnyH_take (i := 3) (v := ?_) (by simp only [List.getElem?_toArray, List.getElem?_cons_succ, List.getElem?_cons_zero]; rfl) (by kernel_rfl) (by kernel_rfl) (by kernel_rfl) (fun _ _ _ h => h) (Or.inl ⟨by rfl, ?_⟩) (by assumption) ?_
                      rotate_left
                      · (intro w hSw; (try dsimp only at hSw); go_simp; (try with_reducible rfl))
                      (try simp only [Act.put, List.setIfInBounds_toArray, List.set_cons_zero, List.set_cons_succ])
                      refine wpAnyH_take (i := 4) (v := ?_) (by simp only [List.getElem?_toArray, List.getElem?_cons_succ, List.getElem?_cons_zero]; rfl) (by kernel_rfl) (by kernel_rfl) (by kernel_rfl) (fun _ _ _ h => h) (Or.inl ⟨by rfl, ?_⟩) (by assumption) ?_
                      rotate_left
                      · (intro w hSw; (try dsimp only at hSw); go_simp; (try with_reducible rfl))
                      (try simp only [Act.put, List.setIfInBounds_toArray, List.set_cons_zero, List.set_cons_succ])
                      refine wpAnyH_take (i := 5) (v := ?_) (by simp only [List.getElem?_toArray, List.getElem?_cons_succ, List.getElem?_cons_zero]; rfl) (by kernel_rfl) (by kernel_rfl) (by kernel_rfl) (fun _ _ _ h => h) (Or.inl ⟨by rfl, ?_⟩) (by assumption) ?_
                      rotate_left
                      · (intro w hSw; (try dsimp only at hSw); go_simp; (try with_reducible rfl))
                      (try simp only [Act.put, List.setIfInBounds_toArray, List.set_cons_zero, List.set_cons_succ])
                      refine wpAnyH_take (i := 6) (v := ?_) (by simp only [List.getElem?_toArray, List.getElem?_cons_succ, List.getElem?_cons_zero]; rfl) (by kernel_rfl) (by kernel_rfl) (by kernel_rfl) (fun _ _ _ h => h) (Or.inl ⟨by rfl, ?_⟩) (by assumption) ?_
                      rotate_left
                      · (intro w hSw; (try dsimp only at hSw); go_simp; (try with_reducible rfl))
                      (try simp only [Act.put, List.setIfInBounds_toArray, List.set_cons_zero, List.set_cons_succ])
                      refine wpAnyH_take (i := 7) (v := ?_) (by simp only [List.getElem?_toArray, List.getElem?_cons_succ, List.getElem?_cons_zero]; rfl) (by kernel_rfl) (by kernel_rfl) (by kernel_rfl) (fun _ _ _ h => h) (Or.inl ⟨by rfl, ?_⟩) (by assumption) ?_
                      rotate_left
                      · (intro w hSw; (try dsimp only at hSw); go_simp; (try with_reducible rfl))
                      (try simp only [Act.put, List.setIfInBounds_toArray, List.set_cons_zero, List.set_cons_succ])
                      refine wpAnyH_take (i := 8) (v := ?_) (by simp only [List.getElem?_toArray, List.getElem?_cons_succ, List.getElem?_cons_zero]; rfl) (by kernel_rfl) (by kernel_rfl) (by kernel_rfl) (fun _ _ _ h => h) (Or.inl ⟨by rfl, ?_⟩) (by assumption) ?_
                      rotate_left
                      · (intro w hSw; (try dsimp only at hSw); go_simp; (try with_reducible rfl))
                      (try simp only [Act.put, List.setIfInBounds_toArray, List.set_cons_zero, List.set_cons_succ])
                      refine wpAnyH_take (i := 9) (v := ?_) (by simp only [List.getElem?_toArray, List.getElem?_cons_succ, List.getElem?_cons_zero]; rfl) (by kernel_rfl) (by kernel_rfl) (by kernel_rfl) (fun _ _ _ h => h) (Or.inl ⟨by rfl, ?_⟩) (by assumption) ?_
                      rotate_left
                      · (intro w hSw; (try dsimp only at hSw); go_simp; (try with_reducible rfl))
                      (try simp only [Act.put, List.setIfInBounds_toArray, List.set_cons_zero, List.set_cons_succ])
                      refine wpAnyH_take (i := 10) (v := ?_) (by simp only [List.getElem?_toArray, List.getElem?_cons_succ, List.getElem?_cons_zero]; rfl) (by kernel_rfl) (by kernel_rfl) (by kernel_rfl) (fun _ _ _ h => h) (Or.inl ⟨by rfl, ?_⟩) (by assumption) ?_
                      rotate_left
                      · (intro w hSw; (try dsimp only at hSw); go_simp; (try with_reducible rfl))
                      (try simp only [Act.put, List.setIfInBounds_toArray, List.set_cons_zero, List.set_cons_succ])
                      refine wpAnyH_take (i := 11) (v := ?_) (by simp only [List.getElem?_toArray, List.getElem?_cons_succ, List.getElem?_cons_zero]; rfl) (by kernel_rfl) (by kernel_rfl) (by kernel_rfl) (fun _ _ _ h => h) (Or.inl ⟨by rfl, ?_⟩) (by assumption) ?_
                      rotate_left
                      · (intro w hSw; (try dsimp only at hSw); go_simp; (try with_reducible rfl))
                      (try simp only [Act.put, List.setIfInBounds_toArray, List.set_cons_zero, List.set_cons_succ])
                      refine wpAnyH_take (i := 12) (v := ?_) (by simp only [List.getElem?_toArray, List.getElem?_cons_succ, List.getElem?_cons_zero]; rfl) (by kernel_rfl) (by kernel_rfl) (by kernel_rfl) (fun _ _ _ h => h) (Or.inl ⟨by rfl, ?_⟩) (by assumption) ?_
                      rotate_left
                      · (intro w hSw; (try dsimp only at hSw); go_simp; (try with_reducible rfl))
                      (try simp only [Act.put, List.setIfInBounds_toArray, List.set_cons_zero, List.set_cons_succ])
                      refine wpAnyH_take (i := 13) (v := ?_) (by simp only [List.getElem?_toArray, List.getElem?_cons_succ, List.getElem?_cons_zero]; rfl) (by kernel_rfl) (by kernel_rfl) (by kernel_rfl) (fun _ _ _ h => h) (Or.inl ⟨by rfl, ?_⟩) (by assumption) ?_
                      rotate_left
                      · (intro w hSw; (try dsimp only at hSw); go_simp; (try with_reducible rfl))
                      (try simp only [Act.put, List.setIfInBounds_toArray, List.set_cons_zero, List.set_cons_succ])
                      refine wpAnyH_take (i := 14) (v := ?_) (by simp only [List.getElem?_toArray, List.getElem?_cons_succ, List.getElem?_cons_zero]; rfl) (by kernel_rfl) (by kernel_rfl) (by kernel_rfl) (fun _ _ _ h => h) (Or.inl ⟨by rfl, ?_⟩) (by assumption) ?_
                      rotate_left
                      · (intro w hSw; (try dsimp only at hSw); go_simp; (try with_reducible rfl))
                      (try simp only [Act.put, List.setIfInBounds_toArray, List.set_cons_zero, List.set_cons_succ])
                      refine wpAnyH_take (i := 15) (v := ?_) (by simp only [List.getElem?_toArray, List.getElem?_cons_succ, List.getElem?_cons_zero]; rfl) (by kernel_rfl) (by kernel_rfl) (by kernel_rfl) (fun _ _ _ h => h) (Or.inl ⟨by rfl, ?_⟩) (by assumption) ?_
                      rotate_left
                      · (intro w hSw; (try dsimp only at hSw); go_simp; (try with_reducible rfl))
                      (try simp only [Act.put, List.setIfInBounds_toArray, List.set_cons_zero, List.set_cons_succ])
                      refine wpAnyH_take (i := 16) (v := ?_) (by simp only [List.getElem?_toArray, List.getElem?_cons_succ, List.getElem?_cons_zero]; rfl) (by kernel_rfl) (by kernel_rfl) (by kernel_rfl) (fun _ _ _ h => h) (Or.inl ⟨by rfl, ?_⟩) (by assumption) ?_
                      rotate_left
                      · (intro w hSw; (try dsimp only at hSw); go_simp; (try with_reducible rfl))
                      (try simp only [Act.put, List.setIfInBounds_toArray, List.set_cons_zero, List.set_cons_succ])
                      refine wpAnyH_take (i := 17) (v := ?_) (by simp only [List.getElem?_toArray, List.getElem?_cons_succ, List.getElem?_cons_zero]; rfl) (by kernel_rfl) (by kernel_rfl) (by kernel_rfl) (fun _ _ _ h => h) (Or.inl ⟨by rfl, ?_⟩) (by assumption) ?_
                      rotate_left
                      · (intro w hSw; (try dsimp only at hSw); go_simp; (try with_reducible rfl))
                      (try simp only [Act.put, List.setIfInBounds_toArray, List.set_cons_zero, List.set_cons_succ])
                      refine wpAnyH_take (i := 18) (v := ?_) (by simp only [List.getElem?_toArray, List.getElem?_cons_succ, List.getElem?_cons_zero]; rfl) (by kernel_rfl) (by kernel_rfl) (by kernel_rfl) (fun _ _ _ h => h) (Or.inl ⟨by rfl, ?_⟩) (by assumption) ?_
                      rotate_left
                      · (intro w hSw; (try dsimp only at hSw); go_simp; (try with_reducible rfl))
                      (try simp only [Act.put, List.setIfInBounds_toArray, List.set_cons_zero, List.set_cons_succ])
                      refine wpAnyH_take (i := 19) (v := ?_) (by simp only [List.getElem?_toArray, List.getElem?_cons_succ, List.getElem?_cons_zero]; rfl) (by kernel_rfl) (by kernel_rfl) (by kernel_rfl) (fun _ _ _ h => h) (Or.inl ⟨by rfl, ?_⟩) (by assumption) ?_
                      rotate_left
                      · (intro w hSw; (try dsimp only at hSw); go_simp; (try with_reducible rfl))
                      (try simp only [Act.put, List.setIfInBounds_toArray, List.set_cons_zero, List.set_cons_succ])
                      refine wpAnyH_take (i := 20) (v := ?_) (by simp only [List.getElem?_toArray, List.getElem?_cons_succ, List.getElem?_cons_zero]; rfl) (by kernel_rfl) (by kernel_rfl) (by kernel_rfl) (fun _ _ _ h => h) (Or.inl ⟨by rfl, ?_⟩) (by assumption) ?_
                      rotate_left
                      · (intro w hSw; (try dsimp only at hSw); go_simp; (try with_reducible rfl))
                      (try simp only [Act.put, List.setIfInBounds_toArray, List.set_cons_zero, List.set_cons_succ])
                      refine wpAnyH_take (i := 21) (v := ?_) (by simp only [List.getElem?_toArray, List.getElem?_cons_succ, List.getElem?_cons_zero]; rfl) (by kernel_rfl) (by kernel_rfl) (by kernel_rfl) (fun _ _ _ h => h) (Or.inl ⟨by rfl, ?_⟩) (by assumption) ?_
                      rotate_left
                      · (intro w hSw; (try dsimp only at hSw); go_simp; (try with_reducible rfl))
                      (try simp only [Act.put, List.setIfInBounds_toArray, List.set_cons_zero, List.set_cons_succ])
                      refine wpAnyH_take (i := 22) (v := ?_) (by simp only [List.getElem?_toArray, List.getElem?_cons_succ, List.getElem?_cons_zero]; rfl) (by kernel_rfl) (by kernel_rfl) (by kernel_rfl) (fun _ _ _ h => h) (Or.inl ⟨by rfl, ?_⟩) (by assumption) ?_
                      rotate_left
                      · (intro w hSw; (try dsimp only at hSw); go_simp; (try with_reducible rfl))
                      (try simp only [Act.put, List.setIfInBounds_toArray, List.set_cons_zero, List.set_cons_succ])
                      refine wpAnyH_done (by kernel_rfl) ?_ _
                      refine NoPanic.normal ?_
                      have HWn := Lib.hid (HWk.out.trans (hHeld.1.mono HWk.out.size))
                      clear hHeld hsx hsy hcm hwk
                      go_wp2
                      go_roundg (prev.length - (k + 1))
                      case measure => have := HKX.out; omega
                      case rel => exact ⟨k + 1, by go_num, by omega, Nat.le_refl _, HWn⟩
                    · rw [decide_eq_false hkK] at hcm
                      have hke : K0 = k := by have := HKK.out; omega
                      have HKE := Lib.hid hke
                      clear hke hkK
                      go_upto_region 17 with fail
                      refine wp_region_noPanic ?_
                      refine wp_region_held_drew (S := (fun wx => Below wr.heap.size wr wx ∧ wx.cell? ⟨gp, 0, none⟩ = some (.string (strB nm)))) (by kernel_rfl) (⟨(Below.refl _ _).drew, HY0.out _ (Below.refl _ _).drew⟩) (fun hHeld => ?_)
                      refine wpAnyH_take (i := 0) (v := ?_) (by simp only [List.getElem?_toArray, List.getElem?_cons_succ, List.getElem?_cons_zero]; rfl) (by kernel_rfl) (by kernel_rfl) (by kernel_rfl) (fun _ _ _ h => h) (Or.inl ⟨by rfl, ?_⟩) (by assumption) ?_
                      rotate_left
                      · (intro w hSw; (try dsimp only at hSw); go_simp; (try with_reducible rfl))
                      (try simp only [Act.put, List.setIfInBounds_toArray, List.set_cons_zero, List.set_cons_succ])
                      refine wpAnyH_take (i := 1) (v := ?_) (by simp only [List.getElem?_toArray, List.getElem?_cons_succ, List.getElem?_cons_zero]; rfl) (by kernel_rfl) (by kernel_rfl) (by kernel_rfl) (fun _ _ _ h => h) (Or.inl ⟨by rfl, ?_⟩) (by assumption) ?_
                      rotate_left
                      · (intro w hSw; (try dsimp only at hSw); go_simp; (try with_reducible rfl))
                      (try simp only [Act.put, List.setIfInBounds_toArray, List.set_cons_zero, List.set_cons_succ])
                      refine wpAnyH_take (i := 2) (v := ?_) (by simp only [List.getElem?_toArray, List.getElem?_cons_succ, List.getElem?_cons_zero]; rfl) (by kernel_rfl) (by kernel_rfl) (by kernel_rfl) (fun _ _ _ h => h) (Or.inl ⟨by rfl, ?_⟩) (by assumption) ?_
                      rotate_left
                      · (intro w hSw; (try dsimp only at hSw); go_simp; (try with_reducible rfl))
                      (try simp only [Act.put, List.setIfInBounds_toArray, List.set_cons_zero, List.set_cons_succ])
                      refine wpAnyH_take (i := 3) (v := ?_) (by simp only [List.getElem?_toArray, List.getElem?_cons_succ, List.getElem?_cons_zero]; rfl) (by kernel_rfl) (by kernel_rfl) (by kernel_rfl) (fun _ _ _ h => h) (Or.inl ⟨by rfl, ?_⟩) (by assumption) ?_
                      rotate_left
                      · (intro w hSw; (try dsimp only at hSw); go_simp; (try with_reducible rfl))
                      (try simp only [Act.put, List.setIfInBounds_toArray, List.set_cons_zero, List.set_cons_succ])
                      refine wpAnyH_take (i := 4) (v := ?_) (by simp only [List.getElem?_toArray, List.getElem?_cons_succ, List.getElem?_cons_zero]; rfl) (by kernel_rfl) (by kernel_rfl) (by kernel_rfl) (fun _ _ _ h => h) (Or.inl ⟨by rfl, ?_⟩) (by assumption) ?_
                      rotate_left
                      · (intro w hSw; (try dsimp only at hSw); go_simp; (try with_reducible rfl))
                      (try simp only [Act.put, List.setIfInBounds_toArray, List.set_cons_zero, List.set_cons_succ])
                      refine wpAnyH_take (i := 5) (v := ?_) (by simp only [List.getElem?_toArray, List.getElem?_cons_succ, List.getElem?_cons_zero]; rfl) (by kernel_rfl) (by kernel_rfl) (by kernel_rfl) (fun _ _ _ h => h) (Or.inl ⟨by rfl, ?_⟩) (by assumption) ?_
                      rotate_left
                      · (intro w hSw; (try dsimp only at hSw); go_simp; (try with_reducible rfl))
                      (try simp only [Act.put, List.setIfInBounds_toArray, List.set_cons_zero, List.set_cons_succ])
                      refine wpAnyH_take (i := 6) (v := ?_) (by simp only [List.getElem?_toArray, List.getElem?_cons_succ, List.getElem?_cons_zero]; rfl) (by kernel_rfl) (by kernel_rfl) (by kernel_rfl) (fun _ _ _ h => h) (Or.inl ⟨by rfl, ?_⟩) (by assumption) ?_
                      rotate_left
                      · (intro w hSw; (try dsimp only at hSw); go_simp; (try with_reducible rfl))
                      (try simp only [Act.put, List.setIfInBounds_toArray, List.set_cons_zero, List.set_cons_succ])
                      refine wpAnyH_take (i := 7) (v := ?_) (by simp only [List.getElem?_toArray, List.getElem?_cons_succ, List.getElem?_cons_zero]; rfl) (by kernel_rfl) (by kernel_rfl) (by kernel_rfl) (fun _ _ _ h => h) (Or.inl ⟨by rfl, ?_⟩) (by assumption) ?_
                      rotate_left
                      · (intro w hSw; (try dsimp only at hSw); go_simp; (try with_reducible rfl))
                      (try simp only [Act.put, List.setIfInBounds_toArray, List.set_cons_zero, List.set_cons_succ])
                      refine wpAnyH_take (i := 8) (v := ?_) (by simp only [List.getElem?_toArray, List.getElem?_cons_succ, List.getElem?_cons_zero]; rfl) (by kernel_rfl) (by kernel_rfl) (by kernel_rfl) (fun _ _ _ h => h) (Or.inl ⟨by rfl, ?_⟩) (by assumption) ?_
                      rotate_left
                      · (intro w hSw; (try dsimp only at hSw); go_simp; (try with_reducible rfl))
                      (try simp only [Act.put, List.setIfInBounds_toArray, List.set_cons_zero, List.set_cons_succ])
                      refine wpAnyH_take (i := 9) (v := ?_) (by simp only [List.getElem?_toArray, List.getElem?_cons_succ, List.getElem?_cons_zero]; rfl) (by kernel_rfl) (by kernel_rfl) (by kernel_rfl) (fun _ _ _ h => h) (Or.inl ⟨by rfl, ?_⟩) (by assumption) ?_
                      rotate_left
                      · (intro w hSw; (try dsimp only at hSw); go_simp; (try with_reducible rfl))
                      (try simp only [Act.put, List.setIfInBounds_toArray, List.set_cons_zero, List.set_cons_succ])
                      refine wpAnyH_take (i := 10) (v := ?_) (by simp only [List.getElem?_toArray, List.getElem?_cons_succ, List.getElem?_cons_zero]; rfl) (by kernel_rfl) (by kernel_rfl) (by kernel_rfl) (fun _ _ _ h => h) (Or.inl ⟨by rfl, ?_⟩) (by assumption) ?_
                      rotate_left
                      · (intro w hSw; (try dsimp only at hSw); go_simp; (try with_reducible rfl))
                      (try simp only [Act.put, List.setIfInBounds_toArray, List.set_cons_zero, List.set_cons_succ])
                      refine wpAnyH_take (i := 11) (v := ?_) (by simp only [List.getElem?_toArray, List.getElem?_cons_succ, List.getElem?_cons_zero]; rfl) (by kernel_rfl) (by kernel_rfl) (by kernel_rfl) (fun _ _ _ h => h) (Or.inl ⟨by rfl, ?_⟩) (by assumption) ?_
                      rotate_left
                      · (intro w hSw; (try dsimp only at hSw); go_simp; (try with_reducible rfl))
                      (try simp only [Act.put, List.setIfInBounds_toArray, List.set_cons_zero, List.set_cons_succ])
                      refine wpAnyH_take (i := 12) (v := ?_) (by simp only [List.getElem?_toArray, List.getElem?_cons_succ, List.getElem?_cons_zero]; rfl) (by kernel_rfl) (by kernel_rfl) (by kernel_rfl) (fun _ _ _ h => h) (Or.inl ⟨by rfl, ?_⟩) (by assumption) ?_
                      rotate_left
                      · (intro w hSw; (try dsimp only at hSw); go_simp; (try with_reducible rfl))
                      (try simp only [Act.put, List.setIfInBounds_toArray, List.set_cons_zero, List.set_cons_succ])
                      refine wpAnyH_take (i := 13) (v := ?_) (by simp only [List.getElem?_toArray, List.getElem?_cons_succ, List.getElem?_cons_zero]; rfl) (by kernel_rfl) (by kernel_rfl) (by kernel_rfl) (fun _ _ _ h => h) (Or.inl ⟨by rfl, ?_⟩) (by assumption) ?_
                      rotate_left
                      · (intro w hSw; (try dsimp only at hSw); go_simp; (try with_reducible rfl))
                      (try simp only [Act.put, List.setIfInBounds_toArray, List.set_cons_zero, List.set_cons_succ])
                      refine wpAnyH_take (i := 14) (v := ?_) (by simp only [List.getElem?_toArray, List.getElem?_cons_succ, List.getElem?_cons_zero]; rfl) (by kernel_rfl) (by kernel_rfl) (by kernel_rfl) (fun _ _ _ h => h) (Or.inl ⟨by rfl, ?_⟩) (by assumption) ?_
                      rotate_left
                      · (intro w hSw; (try dsimp only at hSw); go_simp; (try with_reducible rfl))
                      (try simp only [Act.put, List.setIfInBounds_toArray, List.set_cons_zero, List.set_cons_succ])
                      refine wpAnyH_take (i := 15) (v := ?_) (by simp only [List.getElem?_toArray, List.getElem?_cons_succ, List.getElem?_cons_zero]; rfl) (by kernel_rfl) (by kernel_rfl) (by kernel_rfl) (fun _ _ _ h => h) (Or.inl ⟨by rfl, ?_⟩) (by assumption) ?_
                      rotate_left
                      · (intro w hSw; (try dsimp only at hSw); go_simp; (try with_reducible rfl))
                      (try simp only [Act.put, List.setIfInBounds_toArray, List.set_cons_zero, List.set_cons_succ])
                      refine wpAnyH_take (i := 16) (v := ?_) (by simp only [List.getElem?_toArray, List.getElem?_cons_succ, List.getElem?_cons_zero]; rfl) (by kernel_rfl) (by kernel_rfl) (by kernel_rfl) (fun _ _ _ h => h) (Or.inl ⟨by rfl, ?_⟩) (by assumption) ?_
                      rotate_left
                      · (intro w hSw; (try dsimp only at hSw); go_simp; (try with_reducible rfl))
                      (try simp only [Act.put, List.setIfInBounds_toArray, List.set_cons_zero, List.set_cons_succ])
                      refine wpAnyH_take (i := 17) (v := ?_) (by simp only [List.getElem?_toArray, List.getElem?_cons_succ, List.getElem?_cons_zero]; rfl) (by kernel_rfl) (by kernel_rfl) (by kernel_rfl) (fun _ _ _ h => h) (Or.inl ⟨by rfl, ?_⟩) (by assumption) ?_
                      rotate_left
                      · (intro w hSw; (try dsimp only at hSw); go_simp; (try with_reducible rfl))
                      (try simp only [Act.put, List.setIfInBounds_toArray, List.set_cons_zero, List.set_cons_succ])
                      refine wpAnyH_take (i := 18) (v := ?_) (by simp only [List.getElem?_toArray, List.getElem?_cons_succ, List.getElem?_cons_zero]; rfl) (by kernel_rfl) (by kernel_rfl) (by kernel_rfl) (fun _ _ _ h => h) (Or.inl ⟨by rfl, ?_⟩) (by assumption) ?_
                      rotate_left
                      · (intro w hSw; (try dsimp only at hSw); go_simp; (try with_reducible rfl))
                      (try simp only [Act.put, List.setIfInBounds_toArray, List.set_cons_zero, List.set_cons_succ])
                      refine wpAnyH_take (i := 19) (v := ?_) (by simp only [List.getElem?_toArray, List.getElem?_cons_succ, List.getElem?_cons_zero]; rfl) (by kernel_rfl) (by kernel_rfl) (by kernel_rfl) (fun _ _ _ h => h) (Or.inl ⟨by rfl, ?_⟩) (by assumption) ?_
                      rotate_left
                      · (intro w hSw; (try dsimp only at hSw); go_simp; (try with_reducible rfl))
                      (try simp only [Act.put, List.setIfInBounds_toArray, List.set_cons_zero, List.set_cons_succ])
                      refine wpAnyH_take (i := 20) (v := ?_) (by simp only [List.getElem?_toArray, List.getElem?_cons_succ, List.getElem?_cons_zero]; rfl) (by kernel_rfl) (by kernel_rfl) (by kernel_rfl) (fun _ _ _ h => h) (Or.inl ⟨by rfl, ?_⟩) (by assumption) ?_
                      rotate_left
                      · (intro w hSw; (try dsimp only at hSw); go_simp; (try with_reducible rfl))
                      (try simp only [Act.put, List.setIfInBounds_toArray, List.set_cons_zero, List.set_cons_succ])
                      refine wpAnyH_take (i := 21) (v := ?_) (by simp only [List.getElem?_toArray, List.getElem?_cons_succ, List.getElem?_cons_zero]; rfl) (by kernel_rfl) (by kernel_rfl) (by kernel_rfl) (fun _ _ _ h => h) (Or.inl ⟨by rfl, ?_⟩) (by assumption) ?_
                      rotate_left
                      · (intro w hSw; (try dsimp only at hSw); go_simp; (try with_reducible rfl))
                      (try simp only [Act.put, List.setIfInBounds_toArray, List.set_cons_zero, List.set_cons_succ])
                      refine wpAnyH_take (i := 22) (v := ?_) (by simp only [List.getElem?_toArray, List.getElem?_cons_succ, List.getElem?_cons_zero]; rfl) (by kernel_rfl) (by kernel_rfl) (by kernel_rfl) (fun _ _ _ h => h) (Or.inl ⟨by rfl, ?_⟩) (by assumption) ?_
                      rotate_left
                      · (intro w hSw; (try dsimp only at hSw); go_simp; (try with_reducible rfl))
                      (try simp only [Act.put, List.setIfInBounds_toArray, List.set_cons_zero, List.set_cons_succ])
                      refine wpAnyH_done (by kernel_rfl) ?_ _
                      refine NoPanic.normal ?_
                      have HWn := Lib.hid (HWk.out.trans (hHeld.1.mono HWk.out.size))
                      clear hHeld hsx hsy hcm hwk
                      go_wp2
                      go_meet
                      exact ⟨by rw [HKE.out], rfl, HWn, HLS⟩
                  · have h2' : ¬ (k : Int) < (nm.length : Int) := by omega
                    have hke : K0 = k := by have := HKK.out; have := HKA.out; have := (alk_le prev nm).2; omega
                    have HKE := Lib.hid hke
                    clear hke
                    go_upto_region 17 with fail
                    refine wp_region_noPanic ?_
                    refine wp_region_held_drew (S := (fun wx => Below wr.heap.size wr wx ∧ wx.cell? ⟨gp, 0, none⟩ = some (.string (strB nm)))) (by kernel_rfl) (⟨(Below.refl _ _).drew, HY0.out _ (Below.refl _ _).drew⟩) (fun hHeld => ?_)
                    refine wpAnyH_take (i := 0) (v := ?_) (by simp only [List.getElem?_toArray, List.getElem?_cons_succ, List.getElem?_cons_zero]; rfl) (by kernel_rfl) (by kernel_rfl) (by kernel_rfl) (fun _ _ _ h => h) (Or.inl ⟨by rfl, ?_⟩) (by assumption) ?_
                    rotate_left
                    · (intro w hSw; (try dsimp only at hSw); go_simp; (try with_reducible rfl))
                    (try simp only [Act.put, List.setIfInBounds_toArray, List.set_cons_zero, List.set_cons_succ])
                    refine wpAnyH_take (i := 1) (v := ?_) (by simp only [List.getElem?_toArray, List.getElem?_cons_succ, List.getElem?_cons_zero]; rfl) (by kernel_rfl) (by kernel_rfl) (by kernel_rfl) (fun _ _ _ h => h) (Or.inl ⟨by rfl, ?_⟩) (by assumption) ?_
                    rotate_left
                    · (intro w hSw; (try dsimp only at hSw); go_simp; (try with_reducible rfl))
                    (try simp only [Act.put, List.setIfInBounds_toArray, List.set_cons_zero, List.set_cons_succ])
                    refine wpAnyH_take (i := 2) (v := ?_) (by simp only [List.getElem?_toArray, List.getElem?_cons_succ, List.getElem?_cons_zero]; rfl) (by kernel_rfl) (by kernel_rfl) (by kernel_rfl) (fun _ _ _ h => h) (Or.inl ⟨by rfl, ?_⟩) (by assumption) ?_
                    rotate_left
                    · (intro w hSw; (try dsimp only at hSw); go_simp; (try with_reducible rfl))
                    (try simp only [Act.put, List.setIfInBounds_toArray, List.set_cons_zero, List.set_cons_succ])
                    refine wpAnyH_take (i := 3) (v := ?_) (by simp only [List.getElem?_toArray, List.getElem?_cons_succ, List.getElem?_cons_zero]; rfl) (by kernel_rfl) (by kernel_rfl) (by kernel_rfl) (fun _ _ _ h => h) (Or.inl ⟨by rfl, ?_⟩) (by assumption) ?_
                    rotate_left
                    · (intro w hSw; (try dsimp only at hSw); go_simp; (try with_reducible rfl))
                    (try simp only [Act.put, List.setIfInBounds_toArray, List.set_cons_zero, List.set_cons_succ])
                    refine wpAnyH_take (i := 4) (v := ?_) (by simp only [List.getElem?_toArray, List.getElem?_cons_succ, List.getElem?_cons_zero]; rfl) (by kernel_rfl) (by kernel_rfl) (by kernel_rfl) (fun _ _ _ h => h) (Or.inl ⟨by rfl, ?_⟩) (by assumption) ?_
                    rotate_left
                    · (intro w hSw; (try dsimp only at hSw); go_simp; (try with_reducible rfl))
                    (try simp only [Act.put, List.setIfInBounds_toArray, List.set_cons_zero, List.set_cons_succ])
                    refine wpAnyH_take (i := 5) (v := ?_) (by simp only [List.getElem?_toArray, List.getElem?_cons_succ, List.getElem?_cons_zero]; rfl) (by kernel_rfl) (by kernel_rfl) (by kernel_rfl) (fun _ _ _ h => h) (Or.inl ⟨by rfl, ?_⟩) (by assumption) ?_
                    rotate_left
                    · (intro w hSw; (try dsimp only at hSw); go_simp; (try with_reducible rfl))
                    (try simp only [Act.put, List.setIfInBounds_toArray, List.set_cons_zero, List.set_cons_succ])
                    refine wpAnyH_take (i := 6) (v := ?_) (by simp only [List.getElem?_toArray, List.getElem?_cons_succ, List.getElem?_cons_zero]; rfl) (by kernel_rfl) (by kernel_rfl) (by kernel_rfl) (fun _ _ _ h => h) (Or.inl ⟨by rfl, ?_⟩) (by assumption) ?_
                    rotate_left
                    · (intro w hSw; (try dsimp only at hSw); go_simp; (try with_reducible rfl))
                    (try simp only [Act.put, List.setIfInBounds_toArray, List.set_cons_zero, List.set_cons_succ])
                    refine wpAnyH_take (i := 7) (v := ?_) (by simp only [List.getElem?_toArray, List.getElem?_cons_succ, List.getElem?_cons_zero]; rfl) (by kernel_rfl) (by kernel_rfl) (by kernel_rfl) (fun _ _ _ h => h) (Or.inl ⟨by rfl, ?_⟩) (by assumption) ?_
                    rotate_left
                    · (intro w hSw; (try dsimp only at hSw); go_simp; (try with_reducible rfl))
                    (try simp only [Act.put, List.setIfInBounds_toArray, List.set_cons_zero, List.set_cons_succ])
                    refine wpAnyH_take (i := 8) (v := ?_) (by simp only [List.getElem?_toArray, List.getElem?_cons_succ, List.getElem?_cons_zero]; rfl) (by kernel_rfl) (by kernel_rfl) (by kernel_rfl) (fun _ _ _ h => h) (Or.inl ⟨by rfl, ?_⟩) (by assumption) ?_
                    rotate_left
                    · (intro w hSw; (try dsimp only at hSw); go_simp; (try with_reducible rfl))
                    (try simp only [Act.put, List.setIfInBounds_toArray, List.set_cons_zero, List.set_cons_succ])
                    refine wpAnyH_take (i := 9) (v := ?_) (by simp only [List.getElem?_toArray, List.getElem?_cons_succ, List.getElem?_cons_zero]; rfl) (by kernel_rfl) (by kernel_rfl) (by kernel_rfl) (fun _ _ _ h => h) (Or.inl ⟨by rfl, ?_⟩) (by assumption) ?_
                    rotate_left
                    · (intro w hSw; (try dsimp only at hSw); go_simp; (try with_reducible rfl))
                    (try simp only [Act.put, List.setIfInBounds_toArray, List.set_cons_zero, List.set_cons_succ])
                    refine wpAnyH_take (i := 10) (v := ?_) (by simp only [List.getElem?_toArray, List.getElem?_cons_succ, List.getElem?_cons_zero]; rfl) (by kernel_rfl) (by kernel_rfl) (by kernel_rfl) (fun _ _ _ h => h) (Or.inl ⟨by rfl, ?_⟩) (by assumption) ?_
                    rotate_left
                    · (intro w hSw; (try dsimp only at hSw); go_simp; (try with_reducible rfl))
                    (try simp only [Act.put, List.setIfInBounds_toArray, List.set_cons_zero, List.set_cons_succ])
                    refine wpAnyH_take (i := 11) (v := ?_) (by simp only [List.getElem?_toArray, List.getElem?_cons_succ, List.getElem?_cons_zero]; rfl) (by kernel_rfl) (by kernel_rfl) (by kernel_rfl) (fun _ _ _ h => h) (Or.inl ⟨by rfl, ?_⟩) (by assumption) ?_
                    rotate_left
                    · (intro w hSw; (try dsimp only at hSw); go_simp; (try with_reducible rfl))
                    (try simp only [Act.put, List.setIfInBounds_toArray, List.set_cons_zero, List.set_cons_succ])
                    refine wpAnyH_take (i := 12) (v := undef) (by simp only [List.getElem?_toArray, List.getElem?_cons_succ, List.getElem?_cons_zero]; rfl) (by kernel_rfl) (by kernel_rfl) (by kernel_rfl) (fun _ _ _ h => h) (Or.inr ⟨by rfl, rfl⟩) (by assumption) ?_
                    (try simp only [Act.put, List.setIfInBounds_toArray, List.set_cons_zero, List.set_cons_succ])
                    refine wpAnyH_take (i := 13) (v := undef) (by simp only [List.getElem?_toArray, List.getElem?_cons_succ, List.getElem?_cons_zero]; rfl) (by kernel_rfl) (by kernel_rfl) (by kernel_rfl) (fun _ _ _ h => h) (Or.inr ⟨by rfl, rfl⟩) (by assumption) ?_
                    (try simp only [Act.put, List.setIfInBounds_toArray, List.set_cons_zero, List.set_cons_succ])
                    refine wpAnyH_take (i := 14) (v := undef) (by simp only [List.getElem?_toArray, List.getElem?_cons_succ, List.getElem?_cons_zero]; rfl) (by kernel_rfl) (by kernel_rfl) (by kernel_rfl) (fun _ _ _ h => h) (Or.inr ⟨by rfl, rfl⟩) (by assumption) ?_
                    (try simp only [Act.put, List.setIfInBounds_toArray, List.set_cons_zero, List.set_cons_succ])
                    refine wpAnyH_take (i := 15) (v := undef) (by simp only [List.getElem?_toArray, List.getElem?_cons_succ, List.getElem?_cons_zero]; rfl) (by kernel_rfl) (by kernel_rfl) (by kernel_rfl) (fun _ _ _ h => h) (Or.inr ⟨by rfl, rfl⟩) (by assumption) ?_
                    (try simp only [Act.put, List.setIfInBounds_toArray, List.set_cons_zero, List.set_cons_succ])
                    refine wpAnyH_take (i := 16) (v := undef) (by simp only [List.getElem?_toArray, List.getElem?_cons_succ, List.getElem?_cons_zero]; rfl) (by kernel_rfl) (by kernel_rfl) (by kernel_rfl) (fun _ _ _ h => h) (Or.inr ⟨by rfl, rfl⟩) (by assumption) ?_
                    (try simp only [Act.put, List.setIfInBounds_toArray, List.set_cons_zero, List.set_cons_succ])
                    refine wpAnyH_take (i := 17) (v := undef) (by simp only [List.getElem?_toArray, List.getElem?_cons_succ, List.getElem?_cons_zero]; rfl) (by kernel_rfl) (by kernel_rfl) (by kernel_rfl) (fun _ _ _ h => h) (Or.inr ⟨by rfl, rfl⟩) (by assumption) ?_
                    (try simp only [Act.put, List.setIfInBounds_toArray, List.set_cons_zero, List.set_cons_succ])
                    refine wpAnyH_take (i := 18) (v := undef) (by simp only [List.getElem?_toArray, List.getElem?_cons_succ, List.getElem?_cons_zero]; rfl) (by kernel_rfl) (by kernel_rfl) (by kernel_rfl) (fun _ _ _ h => h) (Or.inr ⟨by rfl, rfl⟩) (by assumption) ?_
                    (try simp only [Act.put, List.setIfInBounds_toArray, List.set_cons_zero, List.set_cons_succ])
                    refine wpAnyH_take (i := 19) (v := undef) (by simp only [List.getElem?_toArray, List.getElem?_cons_succ, List.getElem?_cons_zero]; rfl) (by kernel_rfl) (by kernel_rfl) (by kernel_rfl) (fun _ _ _ h => h) (Or.inr ⟨by rfl, rfl⟩) (by assumption) ?_
                    (try simp only [Act.put, List.setIfInBounds_toArray, List.set_cons_zero, List.set_cons_succ])
                    refine wpAnyH_take (i := 20) (v := undef) (by simp only [List.getElem?_toArray, List.getElem?_cons_succ, List.getElem?_cons_zero]; rfl) (by kernel_rfl) (by kernel_rfl) (by kernel_rfl) (fun _ _ _ h => h) (Or.inr ⟨by rfl, rfl⟩) (by assumption) ?_
                    (try simp only [Act.put, List.setIfInBounds_toArray, List.set_cons_zero, List.set_cons_succ])
                    refine wpAnyH_take (i := 21) (v := undef) (by simp only [List.getElem?_toArray, List.getElem?_cons_succ, List.getElem?_cons_zero]; rfl) (by kernel_rfl) (by kernel_rfl) (by kernel_rfl) (fun _ _ _ h => h) (Or.inr ⟨by rfl, rfl⟩) (by assumption) ?_
                    (try simp only [Act.put, List.setIfInBounds_toArray, List.set_cons_zero, List.set_cons_succ])
                    refine wpAnyH_take (i := 22) (v := ?_) (by simp only [List.getElem?_toArray, List.getElem?_cons_succ, List.getElem?_cons_zero]; rfl) (by kernel_rfl) (by kernel_rfl) (by kernel_rfl) (fun _ _ _ h => h) (Or.inl ⟨by rfl, ?_⟩) (by assumption) ?_
                    rotate_left
                    · (intro w hSw; (try dsimp only at hSw); go_simp; (try with_reducible rfl))
                    (try simp only [Act.put, List.setIfInBounds_toArray, List.set_cons_zero, List.set_cons_succ])
                    refine wpAnyH_done (by kernel_rfl) ?_ _
                    refine NoPanic.normal ?_
                    have HWn := Lib.hid (HWk.out.trans (hHeld.1.mono HWk.out.size))
                    clear hHeld
                    go_wp2
                    go_meet
                    exact ⟨by rw [HKE.out], rfl, HWn, HLS⟩
                · have h1' : ¬ (k : Int) < (prev.length : Int) := by omega
                  have hke : K0 = k := by have := HKK.out; have := HKA.out; have := (alk_le prev nm).1; omega
                  have HKE := Lib.hid hke
                  clear hke
                  go_upto_region 17 with fail
                  refine wp_region_noPanic ?_
                  refine wp_region_held_drew (S := (fun wx => True)) (by kernel_rfl) (trivial) (fun hHeld => ?_)
                  refine wpAnyH_take (i := 0) (v := ?_) (by simp only [List.getElem?_toArray, List.getElem?_cons_succ, List.getElem?_cons_zero]; rfl) (by kernel_rfl) (by kernel_rfl) (by kernel_rfl) (fun _ _ _ h => h) (Or.inl ⟨by rfl, ?_⟩) (by assumption) ?_
                  rotate_left
                  · (intro w hSw; (try dsimp only at hSw); go_simp; (try with_reducible rfl))
                  (try simp only [Act.put, List.setIfInBounds_toArray, List.set_cons_zero, List.set_cons_succ])
                  refine wpAnyH_take (i := 1) (v := ?_) (by simp only [List.getElem?_toArray, List.getElem?_cons_succ, List.getElem?_cons_zero]; rfl) (by kernel_rfl) (by kernel_rfl) (by kernel_rfl) (fun _ _ _ h => h) (Or.inl ⟨by rfl, ?_⟩) (by assumption) ?_
                  rotate_left
                  · (intro w hSw; (try dsimp only at hSw); go_simp; (try with_reducible rfl))
                  (try simp only [Act.put, List.setIfInBounds_toArray, List.set_cons_zero, List.set_cons_succ])
                  refine wpAnyH_take (i := 2) (v := ?_) (by simp only [List.getElem?_toArray, List.getElem?_cons_succ, List.getElem?_cons_zero]; rfl) (by kernel_rfl) (by kernel_rfl) (by kernel_rfl) (fun _ _ _ h => h) (Or.inl ⟨by rfl, ?_⟩) (by assumption) ?_
                  rotate_left
                  · (intro w hSw; (try dsimp only at hSw); go_simp; (try with_reducible rfl))
                  (try simp only [Act.put, List.setIfInBounds_toArray, List.set_cons_zero, List.set_cons_succ])
                  refine wpAnyH_take (i := 3) (v := ?_) (by simp only [List.getElem?_toArray, List.getElem?_cons_succ, List.getElem?_cons_zero]; rfl) (by kernel_rfl) (by kernel_rfl) (by kernel_rfl) (fun _ _ _ h => h) (Or.inl ⟨by rfl, ?_⟩) (by assumption) ?_
                  rotate_left
                  · (intro w hSw; (try dsimp only at hSw); go_simp; (try with_reducible rfl))
                  (try simp only [Act.put, List.setIfInBounds_toArray, List.set_cons_zero, List.set_cons_succ])
                  refine wpAnyH_take (i := 4) (v := ?_) (by simp only [List.getElem?_toArray, List.getElem?_cons_succ, List.getElem?_cons_zero]; rfl) (by kernel_rfl) (by kernel_rfl) (by kernel_rfl) (fun _ _ _ h => h) (Or.inl ⟨by rfl, ?_⟩) (by assumption) ?_
                  rotate_left
                  · (intro w hSw; (try dsimp only at hSw); go_simp; (try with_reducible rfl))
                  (try simp only [Act.put, List.setIfInBounds_toArray, List.set_cons_zero, List.set_cons_succ])
                  refine wpAnyH_take (i := 5) (v := undef) (by simp only [List.getElem?_toArray, List.getElem?_cons_succ, List.getElem?_cons_zero]; rfl) (by kernel_rfl) (by kernel_rfl) (by kernel_rfl) (fun _ _ _ h => h) (Or.inr ⟨by rfl, rfl⟩) (by assumption) ?_
                  (try simp only [Act.put, List.setIfInBounds_toArray, List.set_cons_zero, List.set_cons_succ])
                  refine wpAnyH_take (i := 6) (v := undef) (by simp only [List.getElem?_toArray, List.getElem?_cons_succ, List.getElem?_cons_zero]; rfl) (by kernel_rfl) (by kernel_rfl) (by kernel_rfl) (fun _ _ _ h => h) (Or.inr ⟨by rfl, rfl⟩) (by assumption) ?_
                  (try simp only [Act.put, List.setIfInBounds_toArray, List.set_cons_zero, List.set_cons_succ])
                  refine wpAnyH_take (i := 7) (v := undef) (by simp only [List.getElem?_toArray, List.getElem?_cons_succ, List.getElem?_cons_zero]; rfl) (by kernel_rfl) (by kernel_rfl) (by kernel_rfl) (fun _ _ _ h => h) (Or.inr ⟨by rfl, rfl⟩) (by assumption) ?_
                  (try simp only [Act.put, List.setIfInBounds_toArray, List.set_cons_zero, List.set_cons_succ])
                  refine wpAnyH_take (i := 8) (v := undef) (by simp only [List.getElem?_toArray, List.getElem?_cons_succ, List.getElem?_cons_zero]; rfl) (by kernel_rfl) (by kernel_rfl) (by kernel_rfl) (fun _ _ _ h => h) (Or.inr ⟨by rfl, rfl⟩) (by assumption) ?_
                  (try simp only [Act.put, List.setIfInBounds_toArray, List.set_cons_zero, List.set_cons_succ])
                  refine wpAnyH_take (i := 9) (v := undef) (by simp only [List.getElem?_toArray, List.getElem?_cons_succ, List.getElem?_cons_zero]; rfl) (by kernel_rfl) (by kernel_rfl) (by kernel_rfl) (fun _ _ _ h => h) (Or.inr ⟨by rfl, rfl⟩) (by assumption) ?_
                  (try simp only [Act.put, List.setIfInBounds_toArray, List.set_cons_zero, List.set_cons_succ])
                  refine wpAnyH_take (i := 10) (v := ?_) (by simp only [List.getElem?_toArray, List.getElem?_cons_succ, List.getElem?_cons_zero]; rfl) (by kernel_rfl) (by kernel_rfl) (by kernel_rfl) (fun _ _ _ h => h) (Or.inl ⟨by rfl, ?_⟩) (by assumption) ?_
                  rotate_left
                  · (intro w hSw; (try dsimp only at hSw); go_simp; (try with_reducible rfl))
                  (try simp only [Act.put, List.setIfInBounds_toArray, List.set_cons_zero, List.set_cons_succ])
                  refine wpAnyH_take (i := 11) (v := ?_) (by simp only [List.getElem?_toArray, List.getElem?_cons_succ, List.getElem?_cons_zero]; rfl) (by kernel_rfl) (by kernel_rfl) (by kernel_rfl) (fun _ _ _ h => h) (Or.inl ⟨by rfl, ?_⟩) (by assumption) ?_
                  rotate_left
                  · (intro w hSw; (try dsimp only at hSw); go_simp; (try with_reducible rfl))
                  (try simp only [Act.put, List.setIfInBounds_toArray, List.set_cons_zero, List.set_cons_succ])
                  refine wpAnyH_take (i := 12) (v := undef) (by simp only [List.getElem?_toArray, List.getElem?_cons_succ, List.getElem?_cons_zero]; rfl) (by kernel_rfl) (by kernel_rfl) (by kernel_rfl) (fun _ _ _ h => h) (Or.inr ⟨by rfl, rfl⟩) (by assumption) ?_
                  (try simp only [Act.put, List.setIfInBounds_toArray, List.set_cons_zero, List.set_cons_succ])
                  refine wpAnyH_take (i := 13) (v := undef) (by simp only [List.getElem?_toArray, List.getElem?_cons_succ, List.getElem?_cons_zero]; rfl) (by kernel_rfl) (by kernel_rfl) (by kernel_rfl) (fun _ _ _ h => h) (Or.inr ⟨by rfl, rfl⟩) (by assumption) ?_
                  (try simp only [Act.put, List.setIfInBounds_toArray, List.set_cons_zero, List.set_cons_succ])
                  refine wpAnyH_take (i := 14) (v := undef) (by simp only [List.getElem?_toArray, List.getElem?_cons_succ, List.getElem?_cons_zero]; rfl) (by kernel_rfl) (by kernel_rfl) (by kernel_rfl) (fun _ _ _ h => h) (Or.inr ⟨by rfl, rfl⟩) (by assumption) ?_
                  (try simp only [Act.put, List.setIfInBounds_toArray, List.set_cons_zero, List.set_cons_succ])
                  refine wpAnyH_take (i := 15) (v := undef) (by simp only [List.getElem?_toArray, List.getElem?_cons_succ, List.getElem?_cons_zero]; rfl) (by kernel_rfl) (by kernel_rfl) (by kernel_rfl) (fun _ _ _ h => h) (Or.inr ⟨by rfl, rfl⟩) (by assumption) ?_
                  (try simp only [Act.put, List.setIfInBounds_toArray, List.set_cons_zero, List.set_cons_succ])
                  refine wpAnyH_take (i := 16) (v := undef) (by simp only [List.getElem?_toArray, List.getElem?_cons_succ, List.getElem?_cons_zero]; rfl) (by kernel_rfl) (by kernel_rfl) (by kernel_rfl) (fun _ _ _ h => h) (Or.inr ⟨by rfl, rfl⟩) (by assumption) ?_
                  (try simp only [Act.put, List.setIfInBounds_toArray, List.set_cons_zero, List.set_cons_succ])
                  refine wpAnyH_take (i := 17) (v := undef) (by simp only [List.getElem?_toArray, List.getElem?_cons_succ, List.getElem?_cons_zero]; rfl) (by kernel_rfl) (by kernel_rfl) (by kernel_rfl) (fun _ _ _ h => h) (Or.inr ⟨by rfl, rfl⟩) (by assumption) ?_
                  (try simp only [Act.put, List.setIfInBounds_toArray, List.set_cons_zero, List.set_cons_succ])
                  refine wpAnyH_take (i := 18) (v := undef) (by simp only [List.getElem?_toArray, List.getElem?_cons_succ, List.getElem?_cons_zero]; rfl) (by kernel_rfl) (by kernel_rfl) (by kernel_rfl) (fun _ _ _ h => h) (Or.inr ⟨by rfl, rfl⟩) (by assumption) ?_
                  (try simp only [Act.put, List.setIfInBounds_toArray, List.set_cons_zero, List.set_cons_succ])
                  refine wpAnyH_take (i := 19) (v := undef) (by simp only [List.getElem?_toArray, List.getElem?_cons_succ, List.getElem?_cons_zero]; rfl) (by kernel_rfl) (by kernel_rfl) (by kernel_rfl) (fun _ _ _ h => h) (Or.inr ⟨by rfl, rfl⟩) (by assumption) ?_
                  (try simp only [Act.put, List.setIfInBounds_toArray, List.set_cons_zero, List.set_cons_succ])
                  refine wpAnyH_take (i := 20) (v := undef) (by simp only [List.getElem?_toArray, List.getElem?_cons_succ, List.getElem?_cons_zero]; rfl) (by kernel_rfl) (by kernel_rfl) (by kernel_rfl) (fun _ _ _ h => h) (Or.inr ⟨by rfl, rfl⟩) (by assumption) ?_
                  (try simp only [Act.put, List.setIfInBounds_toArray, List.set_cons_zero, List.set_cons_succ])
                  refine wpAnyH_take (i := 21) (v := undef) (by simp only [List.getElem?_toArray, List.getElem?_cons_succ, List.getElem?_cons_zero]; rfl) (by kernel_rfl) (by kernel_rfl) (by kernel_rfl) (fun _ _ _ h => h) (Or.inr ⟨by rfl, rfl⟩) (by assumption) ?_
                  (try simp only [Act.put, List.setIfInBounds_toArray, List.set_cons_zero, List.set_cons_succ])
                  refine wpAnyH_take (i := 22) (v := ?_) (by simp only [List.getElem?_toArray, List.getElem?_cons_succ, List.getElem?_cons_zero]; rfl) (by kernel_rfl) (by kernel_rfl) (by kernel_rfl) (fun _ _ _ h => h) (Or.inl ⟨by rfl, ?_⟩) (by assumption) ?_
                  rotate_left
                  · (intro w hSw; (try dsimp only at hSw); go_simp; (try with_reducible rfl))
                  (try simp only [Act.put, List.setIfInBounds_toArray, List.set_cons_zero, List.set_cons_succ])
                  refine wpAnyH_done (by kernel_rfl) ?_ _
                  refine NoPanic.normal ?_
                  clear hHeld
                  have HWn := Lib.hid (HWk.out.trans ((Below.refl _ _).drew.mono HWk.out.size))
                  go_wp2
                  go_meet
                  exact ⟨by rw [HKE.out], rfl, HWn, HLS⟩
        case rest =>
          obtain ⟨rfl, rfl, HWX, HLE⟩ := hcut
          generalize hwa : wc = wa at *
          clear hwa
          have HQc := Lib.hid (HQ.out.below HWX.out HBq.out)
          have HBc : Hid (B ≤ wa.heap.size) := Lib.hid (Nat.le_trans HBq.out HWX.out.size)
          obtain ⟨K, hK⟩ : ∃ K, K = alk (ahd i prev) nm := ⟨_, rfl⟩
          have HKE := Lib.hid hK
          have hKn : K ≤ nm.length := by rw [hK]; exact (alk_le _ _).2
          obtain ⟨A5, c5, rfl, _, _⟩ := HQ.out.buf.slice
          have hbl : (b.length : Int) ≤ 60000 := by have := HLONG.out; omega
          obtain ⟨r8, hr8⟩ : ∃ r8, r8 = i % 8 := ⟨_, rfl⟩
          have HR8 := Lib.hid hr8
          have hi8 : (i : Int) % 8 = (r8 : Int) := by omega
          clear x0 hK hr8
          go_upto_if 78 with fail
          go_cut [6, 7, 10, 27] from 27 to 113 (fun s6 s7 s10 s27 wx => ∃ st' : List Nat, s7 = .int .i64 ((st'.length : Nat) : Int) ∧ s10 = .int .i64 (K : Int) ∧ s27 = .int .i64 (i : Int) ∧ Hid (st' = if i % 8 = 0 then st ++ [b.length] else st) ∧ Hid (MwQ w3 B wx (.slice A5 b.length c5) s6 gp nm vl b st') ∧ Hid (wa.heap.size ≤ wx.heap.size))
          case first =>
            by_cases h8 : r8 = 0
            · subst h8
              have h80 : i % 8 = 0 := HR8.out.symm
              have HST : Hid ((if i % 8 = 0 then st ++ [b.length] else st) = st ++ [b.length]) := Lib.hid (if_pos h80)
              have HK00 : Hid (K = 0) := Lib.hid (by rw [HKE.out, show ahd i prev = [] from if_pos h80]; simp [alk])
              have HPL := Lib.hid (putLittle_any (b.length : Int) (by omega) (by omega) 4 wa B HQc.out.pl (by rw [les_len]; have := HQc.out; omega) HBc.out)
              clear h80 hi8
              go_wp2_with fail
              refine HPL.out.mono ?_
              rintro e w6 ⟨v6, rfl, T6⟩
              rw [Int.toNat_natCast, show kk 4 = 4 from rfl, ← bys_app, ← les_snoc] at T6
              have T6' : Laid wa B u6 w6 v6 (les (st ++ [b.length])).length (bys (les (st ++ [b.length]))) := by
                have e : (les (st ++ [b.length])).length = (les st).length + 4 := by rw [les_len, les_len, List.length_append]; simp; omega
                rw [e]; exact T6
              have HQ6 := Lib.hid (HQc.out.place T6' HBc.out)
              have HSZ := Lib.hid T6.grown.size
              clear T6 T6' HPL
              go_wp2
              go_meet
              exact ⟨st ++ [b.length], by rw [List.length_append]; go_num, by rw [HK00.out]; rfl, rfl, Lib.hid HST.out.symm, HQ6, HSZ⟩
            · have h8' : ((r8 : Int) == 0) = false := by simpa using h8
              have h8n : ¬ i % 8 = 0 := by rw [← HR8.out]; exact h8
              have HST : Hid ((if i % 8 = 0 then st ++ [b.length] else st) = st) := Lib.hid (if_neg h8n)
              have HKK : Hid (K0 = K) := Lib.hid (by rw [HK0.out, HKE.out, show ahd i prev = prev from if_neg h8n, if_neg (by omega)])
              clear h8n
              go_wp2
              go_meet
              exact ⟨st, rfl, by rw [HKK.out], rfl, Lib.hid HST.out.symm, HQc, Lib.hid (Nat.le_refl _)⟩
          case rest =>
            obtain ⟨st', rfl, rfl, rfl, HST, HQ2, HSZ2⟩ := hcut
            have HB2c : Hid (B ≤ wc.heap.size) := Lib.hid (Nat.le_trans HBc.out HSZ2.out)
            obtain ⟨A6, c6, rfl, _, _⟩ := HQ2.out.pl.slice
            have h10a := M.sz_le K (by omega)
            have h10b := M.sz_le (nm.length - K) (by omega)
            have h10c := M.sz_le vl.length (by omega)
            obtain ⟨d, hd⟩ : ∃ d, d = nm.length - K := ⟨_, rfl⟩
            have hdi : (nm.length : Int) - (K : Int) = (d : Int) := by omega
            have HDE := Lib.hid hd
            have hds := strB_drop nm K
            rw [hzn] at hds
            have HDL : Hid ((nm.drop K).length = d) := Lib.hid (by rw [List.length_drop, hd])
            have HDB : Hid (∀ x ∈ nm.drop K, x < 256) := Lib.hid (fun x hx => HOKP.out.1 x (List.mem_of_mem_drop hx))
            have HPB : Hid (pairB (ahd i prev) (nm, vl) = M.putB K ++ M.putB d ++ M.putB vl.length ++ nm.drop K ++ vl) := Lib.hid (by rw [hd, HKE.out]; rfl)
            rw [← hd] at h10b
            have hd300 : (d : Int) ≤ 300 := by omega
            have HP1 := Lib.hid (put_any (K : Int) (by omega) (by omega) wc B HQ2.out.buf (by omega) HB2c.out)
            have HTEN := Lib.hid (And.intro h10a (And.intro h10b h10c))
            clear hd h10a h10b h10c hi8
            go_wp2_with fail
            refine HP1.out.mono ?_
            rintro e w4 ⟨v4, rfl, T4⟩
            rw [Int.toNat_natCast, ← bys_app] at T4
            obtain ⟨b1, hb1⟩ : ∃ b1, b1 = b ++ M.putB K := ⟨_, rfl⟩
            rw [← hb1] at T4
            have HE1 := Lib.hid hb1
            have HL1 : Hid (b1.length ≤ b.length + 10) := Lib.hid (by rw [hb1, List.length_append, M.putB_len]; have := HTEN.out.1; omega)
            clear hb1
            have HQ4 := Lib.hid (HQ2.out.lay T4 HB2c.out)
            have HB4 : Hid (B ≤ w4.heap.size) := Lib.hid (Nat.le_trans HB2c.out T4.grown.size)
            obtain ⟨A4, c4, rfl, _, _⟩ := HQ4.out.buf.slice
            have HP2 := Lib.hid (put_any (d : Int) (by omega) (by omega) w4 B HQ4.out.buf (by have := HL1.out; omega) HB4.out)
            have k0 := HQ4.out.c0
            clear T4 HP1
            go_wp2_with fail
            refine HP2.out.mono ?_
            rintro e w6 ⟨v6, rfl, T6⟩
            rw [Int.toNat_natCast, ← bys_app] at T6
            obtain ⟨b2, hb2⟩ : ∃ b2, b2 = b1 ++ M.putB d := ⟨_, rfl⟩
            rw [← hb2] at T6
            have HE2 := Lib.hid hb2
            have HL2 : Hid (b2.length ≤ b.length + 20) := Lib.hid (by rw [hb2, List.length_append, M.putB_len]; have := HTEN.out.2.1; have := HL1.out; omega)
            clear hb2
            have HQ6 := Lib.hid (HQ4.out.lay T6 HB4.out)
            have HB6 : Hid (B ≤ w6.heap.size) := Lib.hid (Nat.le_trans HB4.out T6.grown.size)
            obtain ⟨A8, c8, rfl, _, _⟩ := HQ6.out.buf.slice
            have HP3 := Lib.hid (put_any (vl.length : Int) (by omega) (by omega) w6 B HQ6.out.buf (by have := HL2.out; omega) HB6.out)
            have k1 := HQ6.out.c1
            clear T6 HP2 k0 hdi
            go_wp2_with fail
            refine HP3.out.mono ?_
            rintro e w7 ⟨v7, rfl, T7⟩
            rw [Int.toNat_natCast, ← bys_app] at T7
            obtain ⟨b3, hb3⟩ : ∃ b3, b3 = b2 ++ M.putB vl.length := ⟨_, rfl⟩
            rw [← hb3] at T7
            have HE3 := Lib.hid hb3
            have HL3 : Hid (b3.length ≤ b.length + 30) := Lib.hid (by rw [hb3, List.length_append, M.putB_len]; have := HTEN.out.2.2; have := HL2.out; omega)
            clear hb3
            have HQ7 := Lib.hid (HQ6.out.lay T7 HB6.out)
            have HB7 : Hid (B ≤ w7.heap.size) := Lib.hid (Nat.le_trans HB6.out T7.grown.size)
            clear T7 HP3 k1
            have hl7 := HL3.out
            obtain ⟨v8, w8, run8, r81, r82, r83⟩ := run_append_bufstr (P := Try.prog) w7.drew B 25 9 25 5 i0 (.int .u8 0) Try.underlying25 Try.underlying9 hi hz0 hz1 hz2 rfl HQ7.out.buf.drew (nm.drop K) HDB.out (by rw [HDL.out]; unfold maxLen; omega) (by rw [HDL.out]; omega) HB7.out
            rw [← bys_app] at r81
            obtain ⟨b4, hb4⟩ : ∃ b4, b4 = b3 ++ nm.drop K := ⟨_, rfl⟩
            rw [← hb4] at r81
            have HE4 := Lib.hid hb4
            have HL4 : Hid (b4.length ≤ b.length + 330) := Lib.hid (by rw [hb4, List.length_append, HDL.out]; omega)
            clear hb4
            have HQ8 := Lib.hid (HQ7.out.lay (show Laid w7 B v7 w8 v8 _ _ from ⟨r81, ⟨r82.os, r82.tape, r82.output, r82.size, r82.block⟩, r83⟩) HB7.out)
            have HB8 : Hid (B ≤ w8.heap.size) := Lib.hid (Nat.le_trans HB7.out r82.size)
            obtain ⟨v9, w9, run9, r91, r92, r93⟩ := run_append_bufstr (P := Try.prog) w8 B 25 9 25 5 i0 (.int .u8 0) Try.underlying25 Try.underlying9 hi hz0 hz1 hz2 rfl HQ8.out.buf vl HOKP.out.2.1 (by have := HL4.out; unfold maxLen; omega) (by have := HL4.out; omega) HB8.out
            rw [← bys_app] at r91
            obtain ⟨b5, hb5⟩ : ∃ b5, b5 = b4 ++ vl := ⟨_, rfl⟩
            rw [← hb5] at r91
            have HE5 := Lib.hid hb5
            have HL5 : Hid (b5.length ≤ b.length + 630) := Lib.hid (by rw [hb5, List.length_append]; have := HL4.out; omega)
            clear hb5
            have HQ9 := Lib.hid (HQ8.out.lay (show Laid w8 B v8 w9 v9 _ _ from ⟨r91, r92, r93⟩) HB8.out)
            have HR8a := Lib.hid run8
            have HR9a := Lib.hid run9
            have k0 := HQ7.out.c0
            have k1 := HQ7.out.c1
            have HKZ : Hid (IntKind.i64.wrap (K : Int) = (K : Int)) := Lib.hid (IntWalk.i64_in _ (by omega))
            clear run8 r81 r82 r83 run9 r91 r92 r93 hl7
            go_upto_region 26 with fail
            refine wp_region_noPanic ?_
            refine wp_region_held_drew (S := (fun wx => wx.cell? ⟨gp, 0, none⟩ = some (.string (strB nm)) ∧ wx.cell? ⟨gp, 1, none⟩ = some (.string (strB vl)))) (by kernel_rfl) (⟨k0, k1⟩) (fun hHeld => ?_)
            refine wpAnyH_take (i := 0) (v := ?_) (by simp only [List.getElem?_toArray, List.getElem?_cons_succ, List.getElem?_cons_zero]; rfl) (by kernel_rfl) (by kernel_rfl) (by kernel_rfl) (fun _ _ _ h => h) (Or.inl ⟨by rfl, ?_⟩) (by assumption) ?_
            rotate_left
            · (intro w hSw; (try dsimp only at hSw); go_simp; (try with_reducible rfl))
            (try simp only [Act.put, List.setIfInBounds_toArray, List.set_cons_zero, List.set_cons_succ])
            refine wpAnyH_take (i := 1) (v := ?_) (by simp only [List.getElem?_toArray, List.getElem?_cons_succ, List.getElem?_cons_zero]; rfl) (by kernel_rfl) (by kernel_rfl) (by kernel_rfl) (fun _ _ _ h => h) (Or.inl ⟨by rfl, ?_⟩) (by assumption) ?_
            rotate_left
            · (intro w hSw; (try dsimp only at hSw); go_simp; (try with_reducible rfl))
            (try simp only [Act.put, List.setIfInBounds_toArray, List.set_cons_zero, List.set_cons_succ])
            refine wpAnyH_take (i := 2) (v := ?_) (by simp only [List.getElem?_toArray, List.getElem?_cons_succ, List.getElem?_cons_zero]; rfl) (by kernel_rfl) (by kernel_rfl) (by kernel_rfl) (fun _ _ _ h => h) (Or.inl ⟨by rfl, ?_⟩) (by assumption) ?_
            rotate_left
            · (intro w hSw; (try dsimp only at hSw); go_simp; (try with_reducible rfl))
            (try simp only [Act.put, List.setIfInBounds_toArray, List.set_cons_zero, List.set_cons_succ])
            refine wpAnyH_take (i := 3) (v := ?_) (by simp only [List.getElem?_toArray, List.getElem?_cons_succ, List.getElem?_cons_zero]; rfl) (by kernel_rfl) (by kernel_rfl) (by kernel_rfl) (fun _ _ _ h => h) (Or.inl ⟨by rfl, ?_⟩) (by assumption) ?_
            rotate_left
            · (intro w hSw; (try dsimp only at hSw); go_simp; (try with_reducible rfl))
            (try simp only [Act.put, List.setIfInBounds_toArray, List.set_cons_zero, List.set_cons_succ])
            refine wpAnyH_take (i := 4) (v := ?_) (by simp only [List.getElem?_toArray, List.getElem?_cons_succ, List.getElem?_cons_zero]; rfl) (by kernel_rfl) (by kernel_rfl) (by kernel_rfl) (fun _ _ _ h => h) (Or.inl ⟨by rfl, ?_⟩) (by assumption) ?_
            rotate_left
            · (intro w hSw; (try dsimp only at hSw); go_simp; (try with_reducible rfl))
            (try simp only [Act.put, List.setIfInBounds_toArray, List.set_cons_zero, List.set_cons_succ])
            refine wpAnyH_take (i := 6) (v := ?_) (by simp only [List.getElem?_toArray, List.getElem?_cons_succ, List.getElem?_cons_zero]; rfl) (by kernel_rfl) (by kernel_rfl) (by kernel_rfl) (fun _ _ _ h => h) (Or.inl ⟨by rfl, ?_⟩) (by assumption) ?_
            rotate_left
            · (intro w hSw; (try dsimp only at hSw); go_simp; (try with_reducible rfl))
            (try simp only [Act.put, List.setIfInBounds_toArray, List.set_cons_zero, List.set_cons_succ])
            refine wpAnyH_take (i := 7) (v := ?_) (by simp only [List.getElem?_toArray, List.getElem?_cons_succ, List.getElem?_cons_zero]; rfl) (by kernel_rfl) (by kernel_rfl) (by kernel_rfl) (fun _ _ _ h => h) (Or.inl ⟨by rfl, ?_⟩) (by assumption) ?_
            rotate_left
            · (intro w hSw; (try dsimp only at hSw); go_simp; (try with_reducible rfl))
            (try simp only [Act.put, List.setIfInBounds_toArray, List.set_cons_zero, List.set_cons_succ])
            refine wpAnyH_ready (rs := [5]) (by kernel_rfl) (by simp) ?_
            refine AllReadyH.cons (by simp only [List.getElem?_toArray, List.getElem?_cons_succ, List.getElem?_cons_zero]; rfl) (fun K hK => ?_) AllReadyH.nil
            refine operwp_append_runu rfl (.tmp 104) (.tmp 108) 25 9 rfl rfl rfl HR8a.out ?_
            refine hK.out _ _ ?_ (fun hHeld => ?_)
            · exact ⟨HQ8.out.c0, HQ8.out.c1⟩
            clear hK K
            (try simp only [Act.put, List.setIfInBounds_toArray, List.set_cons_zero, List.set_cons_succ])
            refine wpAnyH_ready (rs := [8]) (by kernel_rfl) (by simp) ?_
            refine AllReadyH.cons (by simp only [List.getElem?_toArray, List.getElem?_cons_succ, List.getElem?_cons_zero]; rfl) (fun K hK => ?_) AllReadyH.nil
            refine operwp_append_runu rfl (.tmp 109) (.tmp 111) 25 9 rfl rfl rfl HR9a.out ?_
            refine hK.out _ _ ?_ (fun hHeld => ?_)
            · exact ⟨HQ9.out.c0, HQ9.out.c1⟩
            clear hK K
            (try simp only [Act.put, List.setIfInBounds_toArray, List.set_cons_zero, List.set_cons_succ])
            refine wpAnyH_take (i := 9) (v := ?_) (by simp only [List.getElem?_toArray, List.getElem?_cons_succ, List.getElem?_cons_zero]; rfl) (by kernel_rfl) (by kernel_rfl) (by kernel_rfl) (fun _ _ _ h => h) (Or.inl ⟨by rfl, ?_⟩) (by assumption) ?_
            rotate_left
            · (intro w hSw; (try dsimp only at hSw); go_simp; (try with_reducible rfl))
            (try simp only [Act.put, List.setIfInBounds_toArray, List.set_cons_zero, List.set_cons_succ])
            refine wpAnyH_done (by kernel_rfl) ?_ _
            refine NoPanic.normal ?_
            clear hHeld k0 k1 hds
            have HNX : Hid (MwS w3 B L w9 v9 (.slice A6 (les st').length c6) (i + 1) nm (b ++ pairB (ahd i prev) (nm, vl)) st') := Lib.hid (by
              have e : b ++ pairB (ahd i prev) (nm, vl) = b5 := by rw [HPB.out, HE5.out, HE4.out, HE3.out, HE2.out, HE1.out]; simp only [List.append_assoc]
              have hlp : (b ++ pairB (ahd i prev) (nm, vl)).length ≤ 1000 * (i + 1) := by
                rw [e]
                have := HL5.out; have := HLONG.out; omega
              refine ⟨by rw [e]; exact HQ9.out.buf, HQ9.out.pl, HQ9.out.ap, HQ9.out.bel, ?_, fun _ => ⟨(nm, vl), by rw [Nat.add_sub_cancel]; exact HPI.out, rfl⟩, hlp, ?_⟩
              · have hm := HMK.out
                rw [if_neg (by rw [HLE.out]; simp), if_neg (show ¬ 262144 < (b ++ pairB (ahd i prev) (nm, vl)).length by omega)] at hm
                rw [hm, HST.out]
              · rw [HST.out]
                have := HFEW.out
                split
                · rw [List.length_append]; simp; omega
                · omega)
            go_wp2
            go_roundg (N - (i + 1))
            case measure => have := HX.out; omega
            case rel => exact ⟨i + 1, nm, b ++ pairB (ahd i prev) (nm, vl), st', by omega, rfl, by go_num, rfl, HNX⟩
      · obtain rfl : i = N := by omega
        have hmk := HW.out.made
        rw [List.drop_of_length_le (by have := HN.out; omega), mkGo] at hmk
        have HB0 : Hid (b ++ les st ++ M.leB st.length 4 = b0) := Lib.hid (by rw [HB0E.out, hmk])
        have hev : ev = 0 := by rw [HEVE.out, hmk]
        have HM0 : Hid ((mk L).2 = 0) := Lib.hid (by rw [hmk])
        subst hev
        have hb5 := HW.out.buf
        have HLES : Hid ((les st).length = 4 * st.length) := Lib.hid (les_len st)
        obtain ⟨A5, c5, rfl, _, _⟩ := HW.out.buf.slice
        obtain ⟨A6, c6, rfl, _, hr6⟩ := HW.out.pl.slice
        have hlong := HW.out.long
        have HLG := Lib.hid hlong
        obtain ⟨bs, hbs⟩ : ∃ bs, bs = les st := ⟨_, rfl⟩
        rw [← hbs] at HB0 HLES hr6 ⊢
        have HBW := Lib.hid HW.out.bel
        have hBw2 := HBw.out
        clear hmk hlong hbs
        go_wp2_with (at_builtin; refine wpList_append_buf _ rfl (.tmp 114) (.tmp 115) 25 rfl B 5 i0 (.int .u8 0) 1 Try.underlying25 hi hz0 hz1 hz2 rfl rfl hb5 rfl hr6 (bys_one _) ?b1 ?b2 hBw2 ?next)
        case b1 => have := HLES.out; have := HLG.out; unfold maxLen; omega
        case b2 => have := HLES.out; have := HLG.out; omega
        case next =>
          intro v7 w7 r1 r2 r3
          have HB7 : Hid (B ≤ w7.heap.size) := Lib.hid (Nat.le_trans hBw2 r2.size)
          have HBL7 : Hid (Below B w3 w7) := Lib.hid (HBW.out.trans ((Below.refl _ _).grown r2 hBw2 (fun k hk => (hb5.lt k hk).1)))
          rw [← bys_app] at r1
          obtain ⟨b7, hb7⟩ : ∃ b7, b7 = b ++ bs := ⟨_, rfl⟩
          have hl7 : b.length + bs.length = b7.length := by rw [hb7, List.length_append]
          rw [← hb7, hl7] at r1
          have HB7E := Lib.hid hb7
          have HL7 : Hid (b7.length ≤ 70000) := Lib.hid (by have := HLES.out; have := HLG.out; omega)
          obtain ⟨A7', c7', rfl, _, _⟩ := r1.slice
          have HPL := Lib.hid (putLittle_any (st.length : Int) (by omega) (by omega) 4 w7 B r1 (by have := HL7.out; omega) HB7.out)
          have HR1 := Lib.hid r1
          clear r1 r2 r3 hb7 hl7 hb5 hr6 hBw2
          go_wp2_with fail
          refine HPL.out.mono ?_
          rintro e w8 ⟨v8, rfl, T8⟩
          have HBL8 : Hid (Below B w3 w8) := Lib.hid (HBL7.out.trans (T8.below HR1.out HB7.out))
          rw [Int.toNat_natCast, show kk 4 = 4 from rfl, ← bys_app, HB7E.out, HB0.out] at T8
          obtain ⟨n8, hn8⟩ : ∃ n8, n8 = (b ++ bs).length + 4 := ⟨_, rfl⟩
          rw [← hn8] at T8
          obtain ⟨A8, c8, rfl, _, hr8⟩ := T8.buf.slice
          have hr7 := HR7.out.below (by rw [← HB.out]; exact HBL8.out)
          have hc1 := run_conv (P := Try.prog) c7 hr7 25 9 5 Try.underlying25 Try.underlying5 Try.underlying9
          have hc2 := run_conv (P := Try.prog) c8 hr8 25 9 5 Try.underlying25 Try.underlying5 Try.underlying9
          have hb03 : (b0.length : Int) ≤ 80000 := by
            have := HLES.out; have := HLG.out
            have e : b0.length = b.length + bs.length + 4 := by rw [← HB0.out, List.length_append, List.length_append, M.leB_len]
            omega
          have hb0e : b0 = (mk L).1 := HB0E.out
          have hmb := mk_bytes L HOK.out
          obtain ⟨hpo, hpl⟩ := parse_mk L HOK.out (by have := HN.out; omega) HM0.out
          rw [← hb0e] at hmb hpo hpl
          have hss : w3.heap.size ≤ w8.heap.size := by have := HBL8.out.size; omega
          have HPA := Lib.hid (parse_any A7 b0.length c7 b0 w8 (hr7.up hss) hmb (by omega) HM7.out HC7.out)
          rw [hpo, hpl, if_pos rfl, ← HN.out] at HPA
          have HAL := Lib.hid (fun A' c' W hr => all_any A' c' L W hr (by have := HN.out; omega))
          rw [← HN.out] at HAL
          have HSA := Lib.hid (fun (A' : Option Addr) (c' : Nat) W (hr : RdN W W.heap.size 2 A' L.length (prC2 L)) (hb : Below w3.heap.size w3 W) => same_any A' A c' c L L W hr ((HR3.out.below hb).up hb.size) HLB.out HLB.out (by have := HN.out; omega) (by have := HN.out; omega))
          simp only [decide_true] at HSA
          rw [← HN.out] at HSA
          clear hr7 hr8 hb03 hb0e hmb hpo hpl hn8 T8 HPL
          generalize strB b0 = S0 at *
          generalize b0.length = n0 at *
          go_upto_region 31 with fail
          clear hc1 hc2
          go_wp2_with fail
          refine HPA.out.mono ?_
          rintro e w9 ⟨v9, rfl, ho9, hb9, _, _⟩
          have HB9 : Hid (Below B w3 w9) := Lib.hid (HBL8.out.trans (hb9.mono (by have := HB.out; omega)))
          obtain ⟨A9, c9, rfl, hn9, _, hr9⟩ := own_rdN ho9
          have HR9 := Lib.hid hr9
          clear ho9 hb9 hr9 hn9 HPA
          go_upto_region 32 with fail
          generalize hwa : w9.alloc (.cells #[.slice A9 i c9] 35) = wa
          have bb : Below w9.heap.size w9 wa := by rw [← hwa]; exact (Below.refl _ _).alloc (Nat.le_refl _) _
          have cb : wa.cell? ⟨w9.heap.size, 0, none⟩ = some (.slice A9 i c9) := by rw [← hwa, World.cell?_alloc_mark]; rfl
          have HBa : Hid (Below B w3 wa) := Lib.hid (HB9.out.trans (bb.mono (by have := HB9.out.size; have := HB.out; omega)))
          have HAa := Lib.hid (HAL.out A9 c9 wa ((HR9.out.below bb).up bb.size))
          clear hwa bb HAL
          go_wp2_with fail
          refine HAa.out.mono ?_
          rintro e wb ⟨vb, rfl, hob, hbb⟩
          have HBb : Hid (Below B w3 wb) := Lib.hid (HBa.out.trans (hbb.mono (by have := HBa.out.size; have := HB.out; omega)))
          obtain ⟨Ab, cb', rfl, _, _, hrb⟩ := own_rdN hob
          have HSb := Lib.hid (HSA.out Ab cb' wb hrb (by rw [← HB.out]; exact HBb.out))
          clear hob hbb hrb HSA cb
          go_wp2_with fail
          refine HSb.out.mono ?_
          rintro e wd ⟨rfl, hbd⟩
          go_wp2
          go_ret
          exact ⟨rfl, HB3.out.trans ((HBb.out.trans (hbd.mono (by have := HBb.out.size; have := HB.out; omega))).mono (by have := HB3.out.size; have := HB.out; omega))⟩
end Go.Proofs.Ytalcdmpjpphopaa
