/- Walks: the reader's tx. -/
import Derived.Test.YtkdkihacpjhgmaaY7
namespace Go.Proofs.Ytkdkihacpjhgmaa
set_option linter.unusedSimpArgs false
set_option linter.unusedVariables false
open Go.RowKit

def mk0 (p : TIn) : MIn := ⟨p, none, 0⟩
theorem rIn_wit (s : TS) : (rIn s).1.wit = [] ∧ (rIn s).1.id.length = 32 := ⟨rfl, rH_len s⟩
theorem mk0_len {p : TIn} (h : p.id.length = 32) : (mk0 p).cells.length = 36 := inC_len h
theorem in_any2 (w : World) (B g en : Nat) (bs : List Nat) (s : TS) (h : Rx w B g bs en s) :
    Calls Try.prog 42 #[.pointer (some ⟨g, 0, none⟩)] w fun ee w' => ee = .returned (.agg (mk0 (rIn s).1).cells.toArray) ∧ Rx w' B g bs en (rIn s).2 ∧ Tch w w' [g] := in_any w B g en bs s h
theorem out_any2 (w : World) (B g en : Nat) (bs : List Nat) (s : TS) (h : Rx w B g bs en s) :
    Calls Try.prog 43 #[.pointer (some ⟨g, 0, none⟩)] w fun ee w' => ee = .returned (.agg (rOut s).1.cells.toArray) ∧ Rx w' B g bs en (rOut s).2 ∧ Tch w w' [g] := out_any w B g en bs s h
theorem rIns_ok : ∀ (n : Nat) (s : TS) (L : List TIn), (∀ p ∈ L, p.id.length = 32) → ∀ p ∈ (rIns n s L).1, p.id.length = 32
  | 0, s, L, h => h
  | n + 1, s, L, h => by
    unfold rIns
    split
    · exact h
    · exact rIns_ok n _ _ (by intro p hp; rcases List.mem_append.1 hp with hp | hp; exact h p hp; simp at hp; subst hp; exact (rIn_wit s).2)
theorem rIns_wit : ∀ (n : Nat) (s : TS) (L : List TIn), (∀ p ∈ L, p.wit = []) → ∀ p ∈ (rIns n s L).1, p.wit = []
  | 0, s, L, h => h
  | n + 1, s, L, h => by
    unfold rIns
    split
    · exact h
    · exact rIns_wit n _ _ (by intro p hp; rcases List.mem_append.1 hp with hp | hp; exact h p hp; simp at hp; subst hp; exact (rIn_wit s).1)
theorem rIns_len : ∀ (n : Nat) (s : TS) (L : List TIn), (rIns n s L).1.length ≤ L.length + n
  | 0, s, L => Nat.le_refl _
  | n + 1, s, L => by
    unfold rIns
    split
    · simp only; omega
    · have := rIns_len n (rIn s).2 (L ++ [(rIn s).1])
      simp only [List.length_append, List.length_singleton] at this
      omega
theorem rOuts_len : ∀ (n : Nat) (s : TS) (L : List TOut), (rOuts n s L).1.length ≤ L.length + n
  | 0, s, L => Nat.le_refl _
  | n + 1, s, L => by
    unfold rOuts
    split
    · simp only; omega
    · have := rOuts_len n (rOut s).2 (L ++ [(rOut s).1])
      simp only [List.length_append, List.length_singleton] at this
      omega
theorem Bx4.alloc' {w : World} {g : Nat} {a b c d : Value} (h : Bx4 w g a b c d) (o : Obj) : Bx4 (w.alloc o) g a b c d := h.keep (Below.heap_alloc w o g h.lt)

/-- What a transaction that was read leaves. -/
structure TxR (w w' : World) (B g en : Nat) (bs : List Nat) (T : PTx) (u : TS) (vI : Value) (LI : List MIn) (vO : Value) : Prop where
  ins : LI.map (·.p) = T.ins
  oi : w'.ownsRow w.heap.size 58 36 vI LI.length (LI.flatMap MIn.cells)
  oo : w'.ownsRow w.heap.size 49 2 vO T.outs.length (T.outs.flatMap TOut.cells)
  wit : ∀ x ∈ LI, Buf w' w.heap.size (.slice x.wa x.p.wit.length x.wc) x.p.wit.length (strs x.p.wit)
  idl : ∀ x ∈ LI, x.p.id.length = 32
  rx : Rx w' B g bs en u
  t : Tch w w' [g]
def txV (T : PTx) (vI vO : Value) : Value := .agg #[.int .i32 T.ver, vI, vO, .int .u32 (T.lock : Int)]

theorem TxS.fin {w wi : World} {B g gt en : Nat} {bs : List Nat} {s : TS} {ver : Int} {vI vO : Value} {LI : List MIn} {LO : List TOut} (h : TxS w wi B g gt en bs s ver vI LI vO LO)
    (hw : ∀ x ∈ LI, Buf wi (gt + 1) (.slice x.wa x.p.wit.length x.wc) x.p.wit.length (strs x.p.wit)) (hi : ∀ x ∈ LI, x.p.id.length = 32) (T : PTx) (k : Value) (hT : LI.map (·.p) = T.ins) (hO : LO = T.outs) :
    Bx4 (wi.setCell ⟨gt, 3, none⟩ k) gt (.int .i32 ver) vI vO k ∧ Bx4 (wi.setCell ⟨gt, 3, none⟩ k) w.heap.size (.int .i32 0) (.slice none 0 0) (.slice none 0 0) (.int .u32 0) ∧
    Bx4 (((((wi.setCell ⟨gt, 3, none⟩ k).setCell ⟨w.heap.size, 0, none⟩ (.int .i32 ver)).setCell ⟨w.heap.size, 1, none⟩ vI).setCell ⟨w.heap.size, 2, none⟩ vO).setCell ⟨w.heap.size, 3, none⟩ k) w.heap.size (.int .i32 ver) vI vO k ∧
    TxR w (((((wi.setCell ⟨gt, 3, none⟩ k).setCell ⟨w.heap.size, 0, none⟩ (.int .i32 ver)).setCell ⟨w.heap.size, 1, none⟩ vI).setCell ⟨w.heap.size, 2, none⟩ vO).setCell ⟨w.heap.size, 3, none⟩ k) B g en bs T s vI LI vO := by
  have hg := h.gl
  have hh := h.gh
  have t1 : Tch wi (wi.setCell ⟨gt, 3, none⟩ k) [gt] := Tch.of_grown (grown_setCell _ _ _) (by simp)
  obtain ⟨W, hW⟩ : ∃ W, W = wi.setCell ⟨gt, 3, none⟩ k := ⟨_, rfl⟩
  have hb := h.box.set3 k
  rw [← hW] at t1 hb ⊢
  have hr := h.res.keep (t1.block _ h.res.lt (by simp; omega))
  have tt : ∀ (X : World) (i : Nat) (v : Value), Tch X (X.setCell ⟨w.heap.size, i, none⟩ v) [w.heap.size] := fun X i v => Tch.of_grown (grown_setCell _ _ _) (by simp)
  have t2 := (((tt W 0 (.int .i32 ver)).trans (tt _ 1 vI) (fun i hi => .inl hi)).trans (tt _ 2 vO) (fun i hi => .inl hi)).trans (tt _ 3 k) (fun i hi => .inl hi)
  have hset0 : Bx4 (W.setCell ⟨w.heap.size, 0, none⟩ (.int .i32 ver)) w.heap.size (.int .i32 ver) (.slice none 0 0) (.slice none 0 0) (.int .u32 0) :=
    ⟨World.cell?_setCell_same _ _ _ hr.c0, (set_other W _ 0 1 _ (by decide)).trans hr.c1, (set_other W _ 0 2 _ (by decide)).trans hr.c2, (set_other W _ 0 3 _ (by decide)).trans hr.c3, fun o => (World.frozen?_setCell _ _ _ _).trans (hr.cold o)⟩
  have hfin := ((hset0.set1 vI).set2 vO).set3 k
  generalize ((((W.setCell ⟨w.heap.size, 0, none⟩ (.int .i32 ver)).setCell ⟨w.heap.size, 1, none⟩ vI).setCell ⟨w.heap.size, 2, none⟩ vO).setCell ⟨w.heap.size, 3, none⟩ k) = X at *
  have t3 : Tch wi X [gt, w.heap.size] := (t1.more (L1 := [gt, w.heap.size]) (by simp)).trans t2 (by simp)
  refine ⟨hb, hr, hfin, hT, ?_, ?_, ?_, hi, h.rx.tch t3 (by simp; omega) (by simp; have := h.rx.lo; omega), h.t.trans t3 (by simp; omega)⟩
  · exact ownN_base (ownN_keep h.oi (fun k hk => t3.block k (h.oi.lt k hk).2 (by have := (h.oi.lt k hk).1; simp; omega))) (by omega)
  · rw [← hO]
    exact ownN_base (ownN_keep h.oo (fun k hk => t3.block k (h.oo.lt k hk).2 (by have := (h.oo.lt k hk).1; simp; omega))) (by omega)
  · exact fun x hx => ((hw x hx).tch t3 (by simp; omega)).base_le (by omega)
theorem rWits_len : ∀ (L : List TIn) (s : TS), (rWits L s).1.length = L.length
  | [], _ => rfl
  | x :: r, s => by simp [rWits, rWits_len r]

set_option maxHeartbeats 8000000 in
set_option maxRecDepth 100000 in
theorem tx_any (w : World) (B g en : Nat) (bs : List Nat) (s : TS) (h : Rx w B g bs en s) :
    Calls Try.prog 27 #[.pointer (some ⟨g, 0, none⟩)] w fun ee w' => ∃ vI LI vO, ee = .returned (.tuple #[txV (rTx s).1 vI vO, .bool (rTx s).2.1]) ∧ TxR w w' B g en bs (rTx s).1 (rTx s).2.2 vI LI vO := by
  have HNU := Lib.hid (fun W u (hW : Rx W B g bs en u) => number_any W B g en bs u hW 4 (by omega))
  have HNL := Lib.hid (fun (W : World) u (hW : Rx W B g bs en u) => (show (rN u 4).1 < 256 ^ 4 from rN_lt u 4 (by omega) hW.b8))
  have HWI := Lib.hid (fun W u (hW : Rx W B g bs en u) => witnesses_any W B g en bs u hW)
  have HCO := Lib.hid (fun W u (hW : Rx W B g bs en u) => count_any W B g en bs u hW 1024 (by omega))
  have HIN := Lib.hid (fun W u (hW : Rx W B g bs en u) => in_any2 W B g en bs u hW)
  have HOU := Lib.hid (fun W u (hW : Rx W B g bs en u) => out_any2 W B g en bs u hW)
  have HPA := Lib.hid (fun W u (hW : Rx W B g bs en u) => parts_any W B g en bs u hW)
  obtain ⟨a, ha⟩ : ∃ a, a = rN s 4 := ⟨_, rfl⟩
  obtain ⟨b, hb⟩ : ∃ b, b = rW a.2 := ⟨_, rfl⟩
  obtain ⟨c, hc⟩ : ∃ c, c = rC b.2 1024 := ⟨_, rfl⟩
  obtain ⟨d, hd⟩ : ∃ d, d = rIns c.1 c.2 [] := ⟨_, rfl⟩
  obtain ⟨e, he⟩ : ∃ e, e = rC d.2 1024 := ⟨_, rfl⟩
  obtain ⟨f, hf⟩ : ∃ f, f = rOuts e.1 e.2 [] := ⟨_, rfl⟩
  obtain ⟨q, hq⟩ : ∃ q, q = if b.1 then rWits d.1 f.2 else (d.1, f.2) := ⟨_, rfl⟩
  obtain ⟨z, hz⟩ : ∃ z, z = rN q.2 4 := ⟨_, rfl⟩
  have HR : Hid (rTx s = ({ ver := IntKind.i32.wrap (a.1 : Int), ins := q.1, outs := f.1, lock := z.1 }, b.1, z.2)) := Lib.hid (by
    rw [hz, hq, hf, he, hd, hc, hb, ha]; rfl)
  have HA := Lib.hid ha
  have HBW := Lib.hid hb
  have HC := Lib.hid hc
  have HD := Lib.hid hd
  have HE := Lib.hid he
  have HF := Lib.hid hf
  have HQ := Lib.hid hq
  have HZ := Lib.hid hz
  have hcl : c.1 ≤ 1024 := by rw [hc]; exact rC_le _ _
  have hel : e.1 ≤ 1024 := by rw [he]; exact rC_le _ _
  have HDL : Hid (d.1.length ≤ 1024 ∧ ∀ p ∈ d.1, p.id.length = 32) := Lib.hid ⟨by rw [hd]; have := rIns_len c.1 c.2 []; simp at this; omega, by rw [hd]; exact rIns_ok _ _ _ (by simp)⟩
  have HDW : Hid (∀ p ∈ d.1, p.wit = []) := Lib.hid (by rw [hd]; exact rIns_wit _ _ _ (by simp))
  have HFL : Hid (f.1.length ≤ 1024) := Lib.hid (by rw [hf]; have := rOuts_len e.1 e.2 []; simp at this; omega)
  generalize rTx s = R at *
  have HCL := Lib.hid hcl
  have HEL := Lib.hid hel
  obtain ⟨W1, e1⟩ : ∃ W1, W1 = w.alloc (.cells #[.int .i32 0, .slice none 0 0, .slice none 0 0, .int .u32 0] 26) := ⟨_, rfl⟩
  have b1 : Below w.heap.size w W1 := by rw [e1]; exact (Below.refl _ _).alloc (Nat.le_refl _) _
  have k1 : Bx4 W1 w.heap.size (.int .i32 0) (.slice none 0 0) (.slice none 0 0) (.int .u32 0) := by rw [e1]; exact Bx4.new _ _ _ _ _ _
  have H1 := Lib.hid (h.below b1)
  have T1 := Lib.hid (Tch.of_below [g] b1)
  have HK1 := Lib.hid k1
  have HE1 := Lib.hid e1
  have HGL := Lib.hid h.g_lt
  have HLO := Lib.hid h.lo
  clear ha hb hc hd he hf hq hz e1 b1 k1 h hcl hel
  go_enter Try.func27, Try.ntmps27
  go_upto_region 1 with fail
  rw [← HE1.out]
  go_wp2_with fail
  refine (HNU.out _ _ H1.out).mono ?_
  rintro ee w2 ⟨rfl, h2, t2⟩
  rw [← HA.out] at h2 ⊢
  have hna := HNL.out _ _ H1.out
  rw [← HA.out] at hna
  have k2 := HK1.out.keep (t2.block _ HK1.out.lt (by simp; have := HGL.out; omega))
  have HGT : Hid (w.heap.size < w2.heap.size) := Lib.hid k2.lt
  obtain ⟨W3, e3⟩ : ∃ W3, W3 = w2.alloc (.cells #[.int .i32 (IntKind.i32.wrap (a.1 : Int)), .slice none 0 0, .slice none 0 0, .int .u32 0] 26) := ⟨_, rfl⟩
  have b3 : Below w2.heap.size w2 W3 := by rw [e3]; exact (Below.refl _ _).alloc (Nat.le_refl _) _
  have x3 : Bx4 W3 w2.heap.size (.int .i32 (IntKind.i32.wrap (a.1 : Int))) (.slice none 0 0) (.slice none 0 0) (.int .u32 0) := by rw [e3]; exact Bx4.new _ _ _ _ _ _
  obtain ⟨gt, hgt⟩ : ∃ gt, gt = w2.heap.size := ⟨_, rfl⟩
  rw [← hgt] at x3
  have H3 : Hid (TxS w W3 B g gt en bs a.2 (IntKind.i32.wrap (a.1 : Int)) (.slice none 0 0) [] (.slice none 0 0) []) := Lib.hid
    ⟨h2.below b3, (T1.out.trans t2 (fun i hi => .inl hi)).trans (Tch.of_below [g] b3) (fun i hi => .inl hi), k2.keep (b3.block _ k2.lt), x3, World.ownsRow_nil _ _ _ _, World.ownsRow_nil _ _ _ _, HGL.out, by rw [hgt]; exact HGT.out, by simp [Value.ownBlock]⟩
  have HE3 := Lib.hid e3
  have HGT2 := Lib.hid hgt
  generalize hver : IntKind.i32.wrap (a.1 : Int) = VER at *
  have HVER := Lib.hid hver
  clear k2 e3 b3 x3 h2 t2 hna
  go_upto_region 2 with fail
  (try rw [hver])
  rw [← HE3.out, ← hgt]
  clear hver hgt
  go_wp2_with fail
  refine (HWI.out _ _ H3.out.rx).mono ?_
  rintro ee w4 ⟨rfl, h4, t4⟩
  rw [← HBW.out] at h4 ⊢
  have H4 := Lib.hid (H3.out.call h4 t4)
  clear h4 t4
  go_wp2_with fail
  refine (HCO.out _ _ H4.out.rx).mono ?_
  rintro ee w5 ⟨rfl, h5, t5⟩
  rw [← HC.out] at h5 ⊢
  have H5 := Lib.hid (H4.out.call h5 t5)
  clear h5 t5
  generalize hc1 : c.1 = c1 at *
  generalize hc2 : c.2 = c2 at *
  clear hc1 hc2
  go_upto_block 0 with fail
  go_cut [6] (fun s6 wx => ∃ vI, Hid (TxS w wx B g gt en bs d.2 VER vI (d.1.map mk0) (.slice none 0 0) []))
  case first =>
    as_aux_lemma =>
      go_wp2_with fail
      go_loopg [6] c1 (fun kx s6 wr => ∃ (n : Nat) (u : TS) (L : List TIn) (v : Value), s6 = .int .i64 n ∧ n ≤ kx ∧ Hid (L.length + n ≤ 1024) ∧ Hid (TxS w wr B g gt en bs u VER v (L.map mk0) (.slice none 0 0) []) ∧ Hid (d = rIns n u L))
      case atStart => exact ⟨c1, c2, [], _, rfl, Nat.le_refl _, Lib.hid (by simpa using HCL.out), H5, Lib.hid HD.out⟩
      case round =>
        obtain ⟨n, u, L, v, rfl, hk, HLN, HS, HFN⟩ := hrel
        obtain ⟨LM, hLM⟩ : ∃ LM, LM = L.map mk0 := ⟨_, rfl⟩
        rw [← hLM] at HS
        have HLL : Hid (LM.length = L.length) := Lib.hid (by rw [hLM, List.length_map])
        have HLM := Lib.hid hLM
        clear hLM
        have d3 := HS.out.rx.box
        obtain ⟨A1, cc1, hb1, _⟩ := d3
        have d3 := hb1.c3
        obtain ⟨q1, q2⟩ := HS.out.rx.tld
        have hn1 : (n : Int) ≤ 1024 := by have := HLN.out; omega
        clear hb1
        cases n with
        | zero =>
          have HEQ : Hid (d = (L, u)) := Lib.hid (by rw [HFN.out]; rfl)
          clear q1 q2 d3
          go_wp2
          go_meet
          exact ⟨v, by rw [HEQ.out]; have := HS.out; rw [HLM.out] at this; exact Lib.hid this⟩
        | succ n =>
          have hpos : (0 : Int) < ((n + 1 : Nat) : Int) := by omega
          by_cases h0 : u.2 = 0
          · have e0 := q1.2 h0
            rw [e0] at d3
            have HEQ : Hid (d = rIns n (rIn u).2 (L ++ [(rIn u).1])) := Lib.hid (by rw [HFN.out, rIns, if_neg (by simpa using h0)])
            obtain ⟨A2, cc2, hv, _, _, _⟩ := own_rdN HS.out.oi
            subst hv
            clear q1 q2 h0 e0
            go_upto_region 6 with fail
            clear d3
            have l0 : wr.drew.cell? ⟨gt, 1, none⟩ = some (.slice A2 LM.length cc2) := HS.out.drew.box.c1
            refine wp_region_noPanic ?_
            refine wp_region_held_drew (S := (fun _ => True)) (by kernel_rfl) (trivial) (fun hHeld => ?_)
            refine wpAnyH_take (i := 0) (v := ?_) (by simp only [List.getElem?_toArray, List.getElem?_cons_succ, List.getElem?_cons_zero]; rfl) (by kernel_rfl) (by kernel_rfl) (by kernel_rfl) (fun _ _ _ h => h) (Or.inl ⟨by rfl, ?_⟩) (by assumption) ?_
            rotate_left
            · (intro w hSw; (try dsimp only at hSw); go_simp; (try with_reducible rfl))
            (try simp only [Act.put, List.setIfInBounds_toArray, List.set_cons_zero, List.set_cons_succ])
            refine wpAnyH_take (i := 2) (v := ?_) (by simp only [List.getElem?_toArray, List.getElem?_cons_succ, List.getElem?_cons_zero]; rfl) (by kernel_rfl) (by kernel_rfl) (by kernel_rfl) (fun _ _ _ h => h) (Or.inl ⟨by rfl, ?_⟩) (by assumption) ?_
            rotate_left
            · (intro w hSw; (try dsimp only at hSw); go_simp; (try with_reducible rfl))
            (try simp only [Act.put, List.setIfInBounds_toArray, List.set_cons_zero, List.set_cons_succ])
            refine wpAnyH_ready (rs := [1, 3]) (by kernel_rfl) (by simp) ?_
            refine AllReadyH.cons (by simp only [List.getElem?_toArray, List.getElem?_cons_succ, List.getElem?_cons_zero]; rfl) (fun K hK => ?_) (AllReadyH.cons (by simp only [List.getElem?_toArray, List.getElem?_cons_succ, List.getElem?_cons_zero]; rfl) (fun K hK => ?_) AllReadyH.nil)
            · go_simp
              refine hK.out _ _ ?_ (fun hHeld => ?_)
              · trivial
              clear hK K
              (try simp only [Act.put, List.setIfInBounds_toArray, List.set_cons_zero, List.set_cons_succ])
              refine wpAnyH_ready (rs := [3]) (by kernel_rfl) (by simp) ?_
              refine AllReadyH.cons (by simp only [List.getElem?_toArray, List.getElem?_cons_succ, List.getElem?_cons_zero]; rfl) (fun K hK => ?_) AllReadyH.nil
              go_simp
              refine (HIN.out _ u HS.out.drew.rx).mono ?_
              rintro ee w5 ⟨rfl, h5, t5⟩
              have hs5 := HS.out.drew.call h5 t5
              obtain ⟨v6, w6, hrun, hc6, hf6, hs6⟩ := hs5.addIn (mk0 (rIn u).1) (mk0_len (rIn_wit u).2) (by rw [HLL.out]; have := HLN.out; omega)
              have HRUN := Lib.hid hrun
              have HLIT := Lib.hid (fun parts hp => lit_in w5 _ (mk0_len (rIn_wit u).2) parts hp)
              have HN : Hid (TxS w (w6.setCell ⟨gt, 1, none⟩ v6) B g gt en bs (rIn u).2 VER v6 ((L ++ [(rIn u).1]).map mk0) (.slice none 0 0) []) := Lib.hid (by first | exact hs6 | (rw [List.map_append, ← HLM.out]; exact hs6))
              obtain ⟨A6, cc6, hv6, _, _, _⟩ := own_rdN HN.out.oi
              obtain ⟨NL, hNL⟩ : ∃ NL, NL = ((L ++ [(rIn u).1]).map mk0).length := ⟨_, rfl⟩
              rw [← hNL] at hv6
              subst hv6
              clear hNL
              have l5 := hs5.box.c1
              have l5a := (hs5.box.alloc' (.cells (mk0 (rIn u).1).cells.toArray 58)).c1
              clear hs5 hs6 hrun h5 t5
              refine hK.out _ _ ?_ (fun hHeld => ?_)
              · trivial
              clear hK K
              (try simp only [Act.put, List.setIfInBounds_toArray, List.set_cons_zero, List.set_cons_succ])
              refine wpAnyH_ready (rs := [4]) (by kernel_rfl) (by simp) ?_
              refine AllReadyH.cons (by simp only [List.getElem?_toArray, List.getElem?_cons_succ, List.getElem?_cons_zero]; rfl) (fun K hK => ?_) AllReadyH.nil
              refine (if_pos rfl).mpr (wp_buildSlice_run 22 1 _ rfl (HLIT.out _ (by first | rfl | (simp; done) | (simp; rfl))) ?_)
              refine hK.out _ _ ?_ (fun hHeld => ?_)
              · trivial
              clear hK K
              (try simp only [Act.put, List.setIfInBounds_toArray, List.set_cons_zero, List.set_cons_succ])
              refine wpAnyH_ready (rs := [5]) (by kernel_rfl) (by simp) ?_
              refine AllReadyH.cons (by simp only [List.getElem?_toArray, List.getElem?_cons_succ, List.getElem?_cons_zero]; rfl) (fun K hK => ?_) AllReadyH.nil
              refine operwp_append_run rfl (.tmp 29) (.tmp 32) 22 rfl rfl rfl HRUN.out ?_
              refine hK.out _ _ ?_ (fun hHeld => ?_)
              · trivial
              clear hK K
              (try simp only [Act.put, List.setIfInBounds_toArray, List.set_cons_zero, List.set_cons_succ])
              refine wpAnyH_take (i := 6) (v := ?_) (by simp only [List.getElem?_toArray, List.getElem?_cons_succ, List.getElem?_cons_zero]; rfl) (by kernel_rfl) (by kernel_rfl) (by kernel_rfl) (fun _ _ _ h => h) (Or.inl ⟨by rfl, ?_⟩) (by assumption) ?_
              rotate_left
              · (intro w hSw; (try dsimp only at hSw); go_simp; (try with_reducible rfl))
              (try simp only [Act.put, List.setIfInBounds_toArray, List.set_cons_zero, List.set_cons_succ])
              refine wpAnyH_ready (rs := [7]) (by kernel_rfl) (by simp) ?_
              refine AllReadyH.cons (by simp only [List.getElem?_toArray, List.getElem?_cons_succ, List.getElem?_cons_zero]; rfl) (fun K hK => ?_) AllReadyH.nil
              go_simp
              refine hK.out _ _ ?_ (fun hHeld => ?_)
              · trivial
              clear hK K
              (try simp only [Act.put, List.setIfInBounds_toArray, List.set_cons_zero, List.set_cons_succ])
              refine wpAnyH_done (by kernel_rfl) ?_ _
              refine NoPanic.normal ?_
              clear hHeld l0 l5 l5a hc6 hf6
              go_wp2_with fail
              go_roundg n
              case measure => omega
              case rel => exact ⟨n, (rIn u).2, L ++ [(rIn u).1], _, by go_num, Nat.le_refl _, Lib.hid (by have := HLN.out; rw [List.length_append]; simp; omega), HN, HEQ⟩
            · go_simp
              refine (HIN.out _ u HS.out.drew.rx).mono ?_
              rintro ee w5 ⟨rfl, h5, t5⟩
              have hs5 := HS.out.drew.call h5 t5
              obtain ⟨v6, w6, hrun, hc6, hf6, hs6⟩ := hs5.addIn (mk0 (rIn u).1) (mk0_len (rIn_wit u).2) (by rw [HLL.out]; have := HLN.out; omega)
              have HRUN := Lib.hid hrun
              have HLIT := Lib.hid (fun parts hp => lit_in w5 _ (mk0_len (rIn_wit u).2) parts hp)
              have HN : Hid (TxS w (w6.setCell ⟨gt, 1, none⟩ v6) B g gt en bs (rIn u).2 VER v6 ((L ++ [(rIn u).1]).map mk0) (.slice none 0 0) []) := Lib.hid (by first | exact hs6 | (rw [List.map_append, ← HLM.out]; exact hs6))
              obtain ⟨A6, cc6, hv6, _, _, _⟩ := own_rdN HN.out.oi
              obtain ⟨NL, hNL⟩ : ∃ NL, NL = ((L ++ [(rIn u).1]).map mk0).length := ⟨_, rfl⟩
              rw [← hNL] at hv6
              subst hv6
              clear hNL
              have l5 := hs5.box.c1
              have l5a := (hs5.box.alloc' (.cells (mk0 (rIn u).1).cells.toArray 58)).c1
              clear hs5 hs6 hrun h5 t5
              refine hK.out _ _ ?_ (fun hHeld => ?_)
              · trivial
              clear hK K
              (try simp only [Act.put, List.setIfInBounds_toArray, List.set_cons_zero, List.set_cons_succ])
              refine wpAnyH_ready (rs := [1, 4]) (by kernel_rfl) (by simp) ?_
              refine AllReadyH.cons (by simp only [List.getElem?_toArray, List.getElem?_cons_succ, List.getElem?_cons_zero]; rfl) (fun K hK => ?_) (AllReadyH.cons (by simp only [List.getElem?_toArray, List.getElem?_cons_succ, List.getElem?_cons_zero]; rfl) (fun K hK => ?_) AllReadyH.nil)
              · go_simp
                refine hK.out _ _ ?_ (fun hHeld => ?_)
                · trivial
                clear hK K
                (try simp only [Act.put, List.setIfInBounds_toArray, List.set_cons_zero, List.set_cons_succ])
                refine wpAnyH_ready (rs := [4]) (by kernel_rfl) (by simp) ?_
                refine AllReadyH.cons (by simp only [List.getElem?_toArray, List.getElem?_cons_succ, List.getElem?_cons_zero]; rfl) (fun K hK => ?_) AllReadyH.nil
                refine (if_pos rfl).mpr (wp_buildSlice_run 22 1 _ rfl (HLIT.out _ (by first | rfl | (simp; done) | (simp; rfl))) ?_)
                refine hK.out _ _ ?_ (fun hHeld => ?_)
                · trivial
                clear hK K
                (try simp only [Act.put, List.setIfInBounds_toArray, List.set_cons_zero, List.set_cons_succ])
                refine wpAnyH_ready (rs := [5]) (by kernel_rfl) (by simp) ?_
                refine AllReadyH.cons (by simp only [List.getElem?_toArray, List.getElem?_cons_succ, List.getElem?_cons_zero]; rfl) (fun K hK => ?_) AllReadyH.nil
                refine operwp_append_run rfl (.tmp 29) (.tmp 32) 22 rfl rfl rfl HRUN.out ?_
                refine hK.out _ _ ?_ (fun hHeld => ?_)
                · trivial
                clear hK K
                (try simp only [Act.put, List.setIfInBounds_toArray, List.set_cons_zero, List.set_cons_succ])
                refine wpAnyH_take (i := 6) (v := ?_) (by simp only [List.getElem?_toArray, List.getElem?_cons_succ, List.getElem?_cons_zero]; rfl) (by kernel_rfl) (by kernel_rfl) (by kernel_rfl) (fun _ _ _ h => h) (Or.inl ⟨by rfl, ?_⟩) (by assumption) ?_
                rotate_left
                · (intro w hSw; (try dsimp only at hSw); go_simp; (try with_reducible rfl))
                (try simp only [Act.put, List.setIfInBounds_toArray, List.set_cons_zero, List.set_cons_succ])
                refine wpAnyH_ready (rs := [7]) (by kernel_rfl) (by simp) ?_
                refine AllReadyH.cons (by simp only [List.getElem?_toArray, List.getElem?_cons_succ, List.getElem?_cons_zero]; rfl) (fun K hK => ?_) AllReadyH.nil
                go_simp
                refine hK.out _ _ ?_ (fun hHeld => ?_)
                · trivial
                clear hK K
                (try simp only [Act.put, List.setIfInBounds_toArray, List.set_cons_zero, List.set_cons_succ])
                refine wpAnyH_done (by kernel_rfl) ?_ _
                refine NoPanic.normal ?_
                clear hHeld l0 l5 l5a hc6 hf6
                go_wp2_with fail
                go_roundg n
                case measure => omega
                case rel => exact ⟨n, (rIn u).2, L ++ [(rIn u).1], _, by go_num, Nat.le_refl _, Lib.hid (by have := HLN.out; rw [List.length_append]; simp; omega), HN, HEQ⟩
              · refine (if_pos rfl).mpr (wp_buildSlice_run 22 1 _ rfl (HLIT.out _ (by first | rfl | (simp; done) | (simp; rfl))) ?_)
                refine hK.out _ _ ?_ (fun hHeld => ?_)
                · trivial
                clear hK K
                (try simp only [Act.put, List.setIfInBounds_toArray, List.set_cons_zero, List.set_cons_succ])
                refine wpAnyH_ready (rs := [1]) (by kernel_rfl) (by simp) ?_
                refine AllReadyH.cons (by simp only [List.getElem?_toArray, List.getElem?_cons_succ, List.getElem?_cons_zero]; rfl) (fun K hK => ?_) AllReadyH.nil
                go_simp
                refine hK.out _ _ ?_ (fun hHeld => ?_)
                · trivial
                clear hK K
                (try simp only [Act.put, List.setIfInBounds_toArray, List.set_cons_zero, List.set_cons_succ])
                refine wpAnyH_ready (rs := [5]) (by kernel_rfl) (by simp) ?_
                refine AllReadyH.cons (by simp only [List.getElem?_toArray, List.getElem?_cons_succ, List.getElem?_cons_zero]; rfl) (fun K hK => ?_) AllReadyH.nil
                refine operwp_append_run rfl (.tmp 29) (.tmp 32) 22 rfl rfl rfl HRUN.out ?_
                refine hK.out _ _ ?_ (fun hHeld => ?_)
                · trivial
                clear hK K
                (try simp only [Act.put, List.setIfInBounds_toArray, List.set_cons_zero, List.set_cons_succ])
                refine wpAnyH_take (i := 6) (v := ?_) (by simp only [List.getElem?_toArray, List.getElem?_cons_succ, List.getElem?_cons_zero]; rfl) (by kernel_rfl) (by kernel_rfl) (by kernel_rfl) (fun _ _ _ h => h) (Or.inl ⟨by rfl, ?_⟩) (by assumption) ?_
                rotate_left
                · (intro w hSw; (try dsimp only at hSw); go_simp; (try with_reducible rfl))
                (try simp only [Act.put, List.setIfInBounds_toArray, List.set_cons_zero, List.set_cons_succ])
                refine wpAnyH_ready (rs := [7]) (by kernel_rfl) (by simp) ?_
                refine AllReadyH.cons (by simp only [List.getElem?_toArray, List.getElem?_cons_succ, List.getElem?_cons_zero]; rfl) (fun K hK => ?_) AllReadyH.nil
                go_simp
                refine hK.out _ _ ?_ (fun hHeld => ?_)
                · trivial
                clear hK K
                (try simp only [Act.put, List.setIfInBounds_toArray, List.set_cons_zero, List.set_cons_succ])
                refine wpAnyH_done (by kernel_rfl) ?_ _
                refine NoPanic.normal ?_
                clear hHeld l0 l5 l5a hc6 hf6
                go_wp2_with fail
                go_roundg n
                case measure => omega
                case rel => exact ⟨n, (rIn u).2, L ++ [(rIn u).1], _, by go_num, Nat.le_refl _, Lib.hid (by have := HLN.out; rw [List.length_append]; simp; omega), HN, HEQ⟩
          · have HEQ : Hid (d = (L, u)) := Lib.hid (by rw [HFN.out, rIns, if_pos (by simpa using h0)])
            have e2 : ((told en u.2 : Int) != 0) = true := by simp [bne]; intro h1; exact h0 (q1.1 (by omega))
            have e3 : ((told en u.2 : Int) == 0) = false := by simp; intro h1; exact h0 (q1.1 (by omega))
            clear h0 q1 q2
            generalize (told en u.2 : Int) = E2 at *
            go_wp2
            go_meet
            exact ⟨v, by rw [HEQ.out]; have := HS.out; rw [HLM.out] at this; exact Lib.hid this⟩
  case rest =>
    obtain ⟨vI, H6⟩ := hcut
    go_wp2_with fail
    refine (HCO.out _ _ H6.out.rx).mono ?_
    rintro ee w7 ⟨rfl, h7, t7⟩
    rw [← HE.out] at h7 ⊢
    have H7 := Lib.hid (H6.out.call h7 t7)
    clear h7 t7
    generalize he1 : e.1 = e1 at *
    generalize he2 : e.2 = e2 at *
    clear he1 he2
    go_upto_block 2 with fail
    go_cut [7] (fun s6 wx => ∃ vO, Hid (TxS w wx B g gt en bs f.2 VER vI (d.1.map mk0) vO f.1))
    case first =>
      as_aux_lemma =>
        go_wp2_with fail
        go_loopg [7] e1 (fun kx s6 wr => ∃ (n : Nat) (u : TS) (L : List TOut) (v : Value), s6 = .int .i64 n ∧ n ≤ kx ∧ Hid (L.length + n ≤ 1024) ∧ Hid (TxS w wr B g gt en bs u VER vI (d.1.map mk0) v L) ∧ Hid (f = rOuts n u L))
        case atStart => exact ⟨e1, e2, [], _, rfl, Nat.le_refl _, Lib.hid (by simpa using HEL.out), H7, Lib.hid HF.out⟩
        case round =>
          obtain ⟨n, u, L, v, rfl, hk, HLN, HS, HFN⟩ := hrel
          have d3 := HS.out.rx.box
          obtain ⟨A1, cc1, hb1, _⟩ := d3
          have d3 := hb1.c3
          obtain ⟨q1, q2⟩ := HS.out.rx.tld
          have hn1 : (n : Int) ≤ 1024 := by have := HLN.out; omega
          clear hb1
          cases n with
          | zero =>
            have HEQ : Hid (f = (L, u)) := Lib.hid (by rw [HFN.out]; rfl)
            clear q1 q2 d3
            go_wp2
            go_meet
            exact ⟨v, by rw [HEQ.out]; exact HS⟩
          | succ n =>
            have hpos : (0 : Int) < ((n + 1 : Nat) : Int) := by omega
            by_cases h0 : u.2 = 0
            · have e0 := q1.2 h0
              rw [e0] at d3
              have HEQ : Hid (f = rOuts n (rOut u).2 (L ++ [(rOut u).1])) := Lib.hid (by rw [HFN.out, rOuts, if_neg (by simpa using h0)])
              obtain ⟨A2, cc2, hv, _, _, _⟩ := own_rdN HS.out.oo
              subst hv
              clear q1 q2 h0 e0
              go_upto_region 10 with fail
              clear d3
              have l0 : wr.drew.cell? ⟨gt, 2, none⟩ = some (.slice A2 L.length cc2) := HS.out.drew.box.c2
              refine wp_region_noPanic ?_
              refine wp_region_held_drew (S := (fun _ => True)) (by kernel_rfl) (trivial) (fun hHeld => ?_)
              refine wpAnyH_take (i := 0) (v := ?_) (by simp only [List.getElem?_toArray, List.getElem?_cons_succ, List.getElem?_cons_zero]; rfl) (by kernel_rfl) (by kernel_rfl) (by kernel_rfl) (fun _ _ _ h => h) (Or.inl ⟨by rfl, ?_⟩) (by assumption) ?_
              rotate_left
              · (intro w hSw; (try dsimp only at hSw); go_simp; (try with_reducible rfl))
              (try simp only [Act.put, List.setIfInBounds_toArray, List.set_cons_zero, List.set_cons_succ])
              refine wpAnyH_take (i := 2) (v := ?_) (by simp only [List.getElem?_toArray, List.getElem?_cons_succ, List.getElem?_cons_zero]; rfl) (by kernel_rfl) (by kernel_rfl) (by kernel_rfl) (fun _ _ _ h => h) (Or.inl ⟨by rfl, ?_⟩) (by assumption) ?_
              rotate_left
              · (intro w hSw; (try dsimp only at hSw); go_simp; (try with_reducible rfl))
              (try simp only [Act.put, List.setIfInBounds_toArray, List.set_cons_zero, List.set_cons_succ])
              refine wpAnyH_ready (rs := [1, 3]) (by kernel_rfl) (by simp) ?_
              refine AllReadyH.cons (by simp only [List.getElem?_toArray, List.getElem?_cons_succ, List.getElem?_cons_zero]; rfl) (fun K hK => ?_) (AllReadyH.cons (by simp only [List.getElem?_toArray, List.getElem?_cons_succ, List.getElem?_cons_zero]; rfl) (fun K hK => ?_) AllReadyH.nil)
              · go_simp
                refine hK.out _ _ ?_ (fun hHeld => ?_)
                · trivial
                clear hK K
                (try simp only [Act.put, List.setIfInBounds_toArray, List.set_cons_zero, List.set_cons_succ])
                refine wpAnyH_ready (rs := [3]) (by kernel_rfl) (by simp) ?_
                refine AllReadyH.cons (by simp only [List.getElem?_toArray, List.getElem?_cons_succ, List.getElem?_cons_zero]; rfl) (fun K hK => ?_) AllReadyH.nil
                go_simp
                refine (HOU.out _ u HS.out.drew.rx).mono ?_
                rintro ee w5 ⟨rfl, h5, t5⟩
                have hs5 := HS.out.drew.call h5 t5
                obtain ⟨v6, w6, hrun, hc6, hf6, hs6⟩ := hs5.addOut (rOut u).1 (by have := HLN.out; omega)
                have HRUN := Lib.hid hrun
                have HLIT := Lib.hid (fun parts hp => lit_out w5 (rOut u).1 parts hp)
                have HN : Hid (TxS w (w6.setCell ⟨gt, 2, none⟩ v6) B g gt en bs (rOut u).2 VER vI (d.1.map mk0) v6 (L ++ [(rOut u).1])) := Lib.hid (by first | exact hs6 | (rw [List.map_append, ← HLM.out]; exact hs6))
                obtain ⟨A6, cc6, hv6, _, _, _⟩ := own_rdN HN.out.oo
                obtain ⟨NL, hNL⟩ : ∃ NL, NL = (L ++ [(rOut u).1]).length := ⟨_, rfl⟩
                rw [← hNL] at hv6
                subst hv6
                clear hNL
                have l5 := hs5.box.c2
                have l5a := (hs5.box.alloc' (.cells ((rOut u).1).cells.toArray 49)).c2
                clear hs5 hs6 hrun h5 t5
                refine hK.out _ _ ?_ (fun hHeld => ?_)
                · trivial
                clear hK K
                (try simp only [Act.put, List.setIfInBounds_toArray, List.set_cons_zero, List.set_cons_succ])
                refine wpAnyH_ready (rs := [4]) (by kernel_rfl) (by simp) ?_
                refine AllReadyH.cons (by simp only [List.getElem?_toArray, List.getElem?_cons_succ, List.getElem?_cons_zero]; rfl) (fun K hK => ?_) AllReadyH.nil
                refine (if_pos rfl).mpr (wp_buildSlice_run 23 1 _ rfl (HLIT.out _ (by first | rfl | (simp; done) | (simp; rfl))) ?_)
                refine hK.out _ _ ?_ (fun hHeld => ?_)
                · trivial
                clear hK K
                (try simp only [Act.put, List.setIfInBounds_toArray, List.set_cons_zero, List.set_cons_succ])
                refine wpAnyH_ready (rs := [5]) (by kernel_rfl) (by simp) ?_
                refine AllReadyH.cons (by simp only [List.getElem?_toArray, List.getElem?_cons_succ, List.getElem?_cons_zero]; rfl) (fun K hK => ?_) AllReadyH.nil
                refine operwp_append_run rfl (.tmp 49) (.tmp 52) 23 rfl rfl rfl HRUN.out ?_
                refine hK.out _ _ ?_ (fun hHeld => ?_)
                · trivial
                clear hK K
                (try simp only [Act.put, List.setIfInBounds_toArray, List.set_cons_zero, List.set_cons_succ])
                refine wpAnyH_take (i := 6) (v := ?_) (by simp only [List.getElem?_toArray, List.getElem?_cons_succ, List.getElem?_cons_zero]; rfl) (by kernel_rfl) (by kernel_rfl) (by kernel_rfl) (fun _ _ _ h => h) (Or.inl ⟨by rfl, ?_⟩) (by assumption) ?_
                rotate_left
                · (intro w hSw; (try dsimp only at hSw); go_simp; (try with_reducible rfl))
                (try simp only [Act.put, List.setIfInBounds_toArray, List.set_cons_zero, List.set_cons_succ])
                refine wpAnyH_ready (rs := [7]) (by kernel_rfl) (by simp) ?_
                refine AllReadyH.cons (by simp only [List.getElem?_toArray, List.getElem?_cons_succ, List.getElem?_cons_zero]; rfl) (fun K hK => ?_) AllReadyH.nil
                go_simp
                refine hK.out _ _ ?_ (fun hHeld => ?_)
                · trivial
                clear hK K
                (try simp only [Act.put, List.setIfInBounds_toArray, List.set_cons_zero, List.set_cons_succ])
                refine wpAnyH_done (by kernel_rfl) ?_ _
                refine NoPanic.normal ?_
                clear hHeld l0 l5 l5a hc6 hf6
                go_wp2_with fail
                go_roundg n
                case measure => omega
                case rel => exact ⟨n, (rOut u).2, L ++ [(rOut u).1], _, by go_num, Nat.le_refl _, Lib.hid (by have := HLN.out; rw [List.length_append]; simp; omega), HN, HEQ⟩
              · go_simp
                refine (HOU.out _ u HS.out.drew.rx).mono ?_
                rintro ee w5 ⟨rfl, h5, t5⟩
                have hs5 := HS.out.drew.call h5 t5
                obtain ⟨v6, w6, hrun, hc6, hf6, hs6⟩ := hs5.addOut (rOut u).1 (by have := HLN.out; omega)
                have HRUN := Lib.hid hrun
                have HLIT := Lib.hid (fun parts hp => lit_out w5 (rOut u).1 parts hp)
                have HN : Hid (TxS w (w6.setCell ⟨gt, 2, none⟩ v6) B g gt en bs (rOut u).2 VER vI (d.1.map mk0) v6 (L ++ [(rOut u).1])) := Lib.hid (by first | exact hs6 | (rw [List.map_append, ← HLM.out]; exact hs6))
                obtain ⟨A6, cc6, hv6, _, _, _⟩ := own_rdN HN.out.oo
                obtain ⟨NL, hNL⟩ : ∃ NL, NL = (L ++ [(rOut u).1]).length := ⟨_, rfl⟩
                rw [← hNL] at hv6
                subst hv6
                clear hNL
                have l5 := hs5.box.c2
                have l5a := (hs5.box.alloc' (.cells ((rOut u).1).cells.toArray 49)).c2
                clear hs5 hs6 hrun h5 t5
                refine hK.out _ _ ?_ (fun hHeld => ?_)
                · trivial
                clear hK K
                (try simp only [Act.put, List.setIfInBounds_toArray, List.set_cons_zero, List.set_cons_succ])
                refine wpAnyH_ready (rs := [1, 4]) (by kernel_rfl) (by simp) ?_
                refine AllReadyH.cons (by simp only [List.getElem?_toArray, List.getElem?_cons_succ, List.getElem?_cons_zero]; rfl) (fun K hK => ?_) (AllReadyH.cons (by simp only [List.getElem?_toArray, List.getElem?_cons_succ, List.getElem?_cons_zero]; rfl) (fun K hK => ?_) AllReadyH.nil)
                · go_simp
                  refine hK.out _ _ ?_ (fun hHeld => ?_)
                  · trivial
                  clear hK K
                  (try simp only [Act.put, List.setIfInBounds_toArray, List.set_cons_zero, List.set_cons_succ])
                  refine wpAnyH_ready (rs := [4]) (by kernel_rfl) (by simp) ?_
                  refine AllReadyH.cons (by simp only [List.getElem?_toArray, List.getElem?_cons_succ, List.getElem?_cons_zero]; rfl) (fun K hK => ?_) AllReadyH.nil
                  refine (if_pos rfl).mpr (wp_buildSlice_run 23 1 _ rfl (HLIT.out _ (by first | rfl | (simp; done) | (simp; rfl))) ?_)
                  refine hK.out _ _ ?_ (fun hHeld => ?_)
                  · trivial
                  clear hK K
                  (try simp only [Act.put, List.setIfInBounds_toArray, List.set_cons_zero, List.set_cons_succ])
                  refine wpAnyH_ready (rs := [5]) (by kernel_rfl) (by simp) ?_
                  refine AllReadyH.cons (by simp only [List.getElem?_toArray, List.getElem?_cons_succ, List.getElem?_cons_zero]; rfl) (fun K hK => ?_) AllReadyH.nil
                  refine operwp_append_run rfl (.tmp 49) (.tmp 52) 23 rfl rfl rfl HRUN.out ?_
                  refine hK.out _ _ ?_ (fun hHeld => ?_)
                  · trivial
                  clear hK K
                  (try simp only [Act.put, List.setIfInBounds_toArray, List.set_cons_zero, List.set_cons_succ])
                  refine wpAnyH_take (i := 6) (v := ?_) (by simp only [List.getElem?_toArray, List.getElem?_cons_succ, List.getElem?_cons_zero]; rfl) (by kernel_rfl) (by kernel_rfl) (by kernel_rfl) (fun _ _ _ h => h) (Or.inl ⟨by rfl, ?_⟩) (by assumption) ?_
                  rotate_left
                  · (intro w hSw; (try dsimp only at hSw); go_simp; (try with_reducible rfl))
                  (try simp only [Act.put, List.setIfInBounds_toArray, List.set_cons_zero, List.set_cons_succ])
                  refine wpAnyH_ready (rs := [7]) (by kernel_rfl) (by simp) ?_
                  refine AllReadyH.cons (by simp only [List.getElem?_toArray, List.getElem?_cons_succ, List.getElem?_cons_zero]; rfl) (fun K hK => ?_) AllReadyH.nil
                  go_simp
                  refine hK.out _ _ ?_ (fun hHeld => ?_)
                  · trivial
                  clear hK K
                  (try simp only [Act.put, List.setIfInBounds_toArray, List.set_cons_zero, List.set_cons_succ])
                  refine wpAnyH_done (by kernel_rfl) ?_ _
                  refine NoPanic.normal ?_
                  clear hHeld l0 l5 l5a hc6 hf6
                  go_wp2_with fail
                  go_roundg n
                  case measure => omega
                  case rel => exact ⟨n, (rOut u).2, L ++ [(rOut u).1], _, by go_num, Nat.le_refl _, Lib.hid (by have := HLN.out; rw [List.length_append]; simp; omega), HN, HEQ⟩
                · refine (if_pos rfl).mpr (wp_buildSlice_run 23 1 _ rfl (HLIT.out _ (by first | rfl | (simp; done) | (simp; rfl))) ?_)
                  refine hK.out _ _ ?_ (fun hHeld => ?_)
                  · trivial
                  clear hK K
                  (try simp only [Act.put, List.setIfInBounds_toArray, List.set_cons_zero, List.set_cons_succ])
                  refine wpAnyH_ready (rs := [1]) (by kernel_rfl) (by simp) ?_
                  refine AllReadyH.cons (by simp only [List.getElem?_toArray, List.getElem?_cons_succ, List.getElem?_cons_zero]; rfl) (fun K hK => ?_) AllReadyH.nil
                  go_simp
                  refine hK.out _ _ ?_ (fun hHeld => ?_)
                  · trivial
                  clear hK K
                  (try simp only [Act.put, List.setIfInBounds_toArray, List.set_cons_zero, List.set_cons_succ])
                  refine wpAnyH_ready (rs := [5]) (by kernel_rfl) (by simp) ?_
                  refine AllReadyH.cons (by simp only [List.getElem?_toArray, List.getElem?_cons_succ, List.getElem?_cons_zero]; rfl) (fun K hK => ?_) AllReadyH.nil
                  refine operwp_append_run rfl (.tmp 49) (.tmp 52) 23 rfl rfl rfl HRUN.out ?_
                  refine hK.out _ _ ?_ (fun hHeld => ?_)
                  · trivial
                  clear hK K
                  (try simp only [Act.put, List.setIfInBounds_toArray, List.set_cons_zero, List.set_cons_succ])
                  refine wpAnyH_take (i := 6) (v := ?_) (by simp only [List.getElem?_toArray, List.getElem?_cons_succ, List.getElem?_cons_zero]; rfl) (by kernel_rfl) (by kernel_rfl) (by kernel_rfl) (fun _ _ _ h => h) (Or.inl ⟨by rfl, ?_⟩) (by assumption) ?_
                  rotate_left
                  · (intro w hSw; (try dsimp only at hSw); go_simp; (try with_reducible rfl))
                  (try simp only [Act.put, List.setIfInBounds_toArray, List.set_cons_zero, List.set_cons_succ])
                  refine wpAnyH_ready (rs := [7]) (by kernel_rfl) (by simp) ?_
                  refine AllReadyH.cons (by simp only [List.getElem?_toArray, List.getElem?_cons_succ, List.getElem?_cons_zero]; rfl) (fun K hK => ?_) AllReadyH.nil
                  go_simp
                  refine hK.out _ _ ?_ (fun hHeld => ?_)
                  · trivial
                  clear hK K
                  (try simp only [Act.put, List.setIfInBounds_toArray, List.set_cons_zero, List.set_cons_succ])
                  refine wpAnyH_done (by kernel_rfl) ?_ _
                  refine NoPanic.normal ?_
                  clear hHeld l0 l5 l5a hc6 hf6
                  go_wp2_with fail
                  go_roundg n
                  case measure => omega
                  case rel => exact ⟨n, (rOut u).2, L ++ [(rOut u).1], _, by go_num, Nat.le_refl _, Lib.hid (by have := HLN.out; rw [List.length_append]; simp; omega), HN, HEQ⟩
            · have HEQ : Hid (f = (L, u)) := Lib.hid (by rw [HFN.out, rOuts, if_pos (by simpa using h0)])
              have e2 : ((told en u.2 : Int) != 0) = true := by simp [bne]; intro h1; exact h0 (q1.1 (by omega))
              have e3 : ((told en u.2 : Int) == 0) = false := by simp; intro h1; exact h0 (q1.1 (by omega))
              clear h0 q1 q2
              generalize (told en u.2 : Int) = E2 at *
              go_wp2
              go_meet
              exact ⟨v, by rw [HEQ.out]; exact HS⟩
    case rest =>
      obtain ⟨vO, H8⟩ := hcut
      obtain ⟨AI, cI, hvI, _, hcI, _⟩ := own_rdN H8.out.oi
      subst hvI
      obtain ⟨AO, cO, hvO, _, _, _⟩ := own_rdN H8.out.oo
      subst hvO
      have HGTX : Hid (g < gt + 1) := Lib.hid (by have := H8.out.gl; have := H8.out.gh; omega)
      obtain ⟨n, hn⟩ : ∃ n, n = (d.1.map mk0).length := ⟨_, rfl⟩
      have hnd : n = d.1.length := by rw [hn, List.length_map]
      have HND := Lib.hid hnd
      have H8' : Hid (TxS w wc B g gt en bs f.2 VER (.slice AI n cI) (d.1.map mk0) (.slice AO f.1.length cO) f.1) := by rw [hn]; exact H8
      clear H8
      have hn1 : (n : Int) ≤ 1024 := by have := HDL.out.1; omega
      clear hn hnd
      have HW0' : Hid (∀ lo, ∀ x ∈ d.1.map mk0, Buf wc lo (.slice x.wa x.p.wit.length x.wc) x.p.wit.length (strs x.p.wit)) := Lib.hid (by
        intro lo x hx
        obtain ⟨p, hp, rfl⟩ := List.mem_map.1 hx
        rw [show (mk0 p).p.wit = [] from HDW.out p hp]
        exact Buf.nil _ _)
      have HI0 : Hid (∀ x ∈ d.1.map mk0, x.p.id.length = 32) := Lib.hid (by
        intro x hx
        obtain ⟨p, hp, rfl⟩ := List.mem_map.1 hx
        exact HDL.out.2 p hp)
      cases hfl : b.1 with
      | false =>
        have HFLAG := Lib.hid hfl
        have HQ2 : Hid (q = (d.1, f.2)) := Lib.hid (by rw [HQ.out, hfl]; rfl)
        have HS : Hid (TxS w wc B g gt en bs q.2 VER (.slice AI n cI) (d.1.map mk0) (.slice AO f.1.length cO) f.1) := by rw [HQ2.out]; exact H8'
        have HZU := HZ
        have HMP : Hid ((d.1.map mk0).map (·.p) = q.1) := Lib.hid (by rw [HQ2.out, List.map_map]; exact List.map_id _)
        have HWT : Hid (∀ x ∈ d.1.map mk0, Buf wc (gt + 1) (.slice x.wa x.p.wit.length x.wc) x.p.wit.length (strs x.p.wit)) := Lib.hid (HW0'.out _)
        have HID := HI0
        clear hfl
        go_wp2_with fail
        refine (HNU.out _ _ HS.out.rx).mono ?_
        rintro ee w9 ⟨rfl, h9, t9⟩
        rw [← HZU.out] at h9 ⊢
        have hzl := HNL.out _ _ HS.out.rx
        rw [← HZU.out] at hzl
        have hz6 : (z.1 : Int) ≤ 4294967295 := by have : (256 : Nat) ^ 4 = 4294967296 := (by decide); omega
        have H9 := Lib.hid (HS.out.call h9 t9)
        have HFI := Lib.hid (H9.out.fin (fun x hx => (HWT.out x hx).tch t9 (by simp; have := HGTX.out; omega)) HID.out R.1 (.int .u32 (z.1 : Int)) (by rw [HR.out]; exact HMP.out) (by rw [HR.out]))
        have x3 := H9.out.box.c3
        have f3 := H9.out.box.cold 3
        obtain ⟨W10, e10⟩ : ∃ W10, W10 = w9.setCell ⟨gt, 3, none⟩ (.int .u32 (z.1 : Int)) := ⟨_, rfl⟩
        rw [← e10] at HFI
        have HE10 := Lib.hid e10
        clear h9 t9 hzl e10
        generalize hz1 : z.1 = Z1 at *
        generalize hz2 : z.2 = Z2 at *
        clear hz1 hz2
        go_upto_region 18 with fail
        rw [← HE10.out]
        clear x3 f3
        obtain ⟨b4, r4, f4, hfin⟩ := HFI.out
        have HFN := Lib.hid hfin
        have d0 := b4.c0
        have d1 := b4.c1
        have d2 := b4.c2
        have d3 := b4.c3
        have e0 := r4.c0
        have e1 := r4.c1
        have e2 := r4.c2
        have e3 := r4.c3
        have f0 := r4.cold 0
        have f1 := r4.cold 1
        have f2 := r4.cold 2
        have f3 := r4.cold 3
        have HF4 := Lib.hid f4
        clear b4 r4 f4 hfin
        go_wp2
        have q0 := HF4.out.c0
        have q1 := HF4.out.c1
        have q2 := HF4.out.c2
        have q3 := HF4.out.c3
        refine bodyPost_ret (v := .tuple #[.agg #[.int .i32 VER, .slice AI n cI, .slice AO f.1.length cO, .int .u32 (Z1 : Int)], .bool false]) (by simp [results, Try.results27, go_sem, q0, q1, q2, q3]) rfl ⟨.slice AI n cI, d.1.map mk0, .slice AO f.1.length cO, ?_, ?_⟩
        · rw [HR.out]; simp only [txV]; rw [HFLAG.out]
        · rw [show R.2.2 = Z2 by rw [HR.out]]; exact HFN.out
      | true =>
        have HFLAG := Lib.hid hfl
        have HQ2 : Hid (q = rWits d.1 f.2) := Lib.hid (by rw [HQ.out, hfl]; rfl)
        clear hfl
        obtain ⟨lo3, hlo3⟩ : ∃ lo3, lo3 = wc.heap.size := ⟨_, rfl⟩
        have HGI : Hid (∀ k, (Value.slice AI n cI).ownBlock = some k → k < lo3) := Lib.hid (fun k hk => by rw [hlo3]; exact (H8'.out.oi.lt k hk).2)
        have HLO3 : Hid (g < lo3 ∧ gt + 1 ≤ lo3) := Lib.hid (by rw [hlo3]; have := H8'.out.box.lt; have := H8'.out.gl; have := H8'.out.gh; omega)
        have HW0 := Lib.hid (HW0'.out lo3)
        have HMM : Hid ((d.1.map mk0).map (·.p) = [] ++ d.1.drop 0) := Lib.hid (by rw [List.map_map]; exact List.map_id _)
        have HLL0 : Hid ((([] : List TIn)).length = 0 ∧ (d.1.map mk0).length = n) := Lib.hid ⟨rfl, by rw [List.length_map, HND.out]⟩
        have HQ3 : Hid (q = ([] ++ (rWits (d.1.drop 0) f.2).1, (rWits (d.1.drop 0) f.2).2)) := Lib.hid (by rw [HQ2.out]; rfl)
        have hx1 := H8'.out.box.c1
        have HLS0 : Hid (lo3 ≤ wc.heap.size) := Lib.hid (by rw [hlo3]; exact Nat.le_refl _)
        clear hlo3
        go_upto_region 13 with fail
        clear hx1
        go_loopg [8, 59] n (fun kx s8 s59 wr => ∃ (i : Nat) (u : TS) (LI : List MIn) (done : List TIn), s59 = .int .i64 i ∧ i ≤ n ∧ n - i ≤ kx ∧ Hid (done.length = i ∧ LI.length = n) ∧ Hid (LI.map (·.p) = done ++ d.1.drop i) ∧ Hid (q = (done ++ (rWits (d.1.drop i) u).1, (rWits (d.1.drop i) u).2)) ∧ Hid (TxS w wr B g gt en bs u VER (.slice AI n cI) LI (.slice AO f.1.length cO) f.1) ∧ Hid (∀ x ∈ LI, Buf wr lo3 (.slice x.wa x.p.wit.length x.wc) x.p.wit.length (strs x.p.wit)) ∧ Hid (∀ x ∈ LI, x.p.id.length = 32) ∧ Hid (lo3 ≤ wr.heap.size))
        case atStart => exact ⟨0, f.2, _, [], rfl, Nat.zero_le _, Nat.le_refl _, HLL0, HMM, HQ3, H8', HW0, HI0, HLS0⟩
        case round =>
          obtain ⟨i, u, LI, done, rfl, hi, hk, HLL, HM, HQU, HS, HWT, HID, HLS⟩ := hrel
          by_cases hlt : i < n
          · obtain ⟨x, hx⟩ : ∃ x, LI[i]? = some x := ⟨_, List.getElem?_eq_getElem (by have := HLL.out; omega)⟩
            have HX := Lib.hid hx
            have hxd : d.1[i]? = some x.p := by
              have e1 : (LI.map (·.p))[i]? = some x.p := by rw [List.getElem?_map, hx]; rfl
              rw [HM.out, List.getElem?_append_right (by rw [HLL.out.1]; exact Nat.le_refl _), HLL.out.1, Nat.sub_self, List.getElem?_drop] at e1
              simpa using e1
            have hdr : d.1.drop i = x.p :: d.1.drop (i + 1) := by
              obtain ⟨h1, h2⟩ := List.getElem?_eq_some_iff.1 hxd
              rw [List.drop_eq_getElem_cons h1, h2]
            have HQV : Hid (q = ((done ++ [{ x.p with wit := (rP u).1 }]) ++ (rWits (d.1.drop (i + 1)) (rP u).2).1, (rWits (d.1.drop (i + 1)) (rP u).2).2)) := Lib.hid (by
              rw [HQU.out, hdr]; simp [rWits])
            have hcl : ∀ y ∈ LI, y.cells.length = 36 := fun y hy => inC_len (HID.out y hy)
            have HCL := Lib.hid hcl
            obtain ⟨gi, c', hv, _, hggi, hgl3, _, _, _⟩ := HS.out.setWit i x hx hcl (HID.out x (List.mem_of_getElem? hx)) [] none 0
            injection hv with e1 e2 e3
            subst e1
            have HGI3 : Hid (gi < lo3 ∧ gt < gi) := Lib.hid ⟨HGI.out gi rfl, hggi⟩
            have HMN : Hid (∀ wa wcc, ((LI.set i ⟨{ x.p with wit := (rP u).1 }, wa, wcc⟩).map (·.p) = (done ++ [{ x.p with wit := (rP u).1 }]) ++ d.1.drop (i + 1))) := Lib.hid (by
              intro wa wcc
              rw [List.map_set, HM.out, hdr, List.set_append_right _ _ (by rw [HLL.out.1]; exact Nat.le_refl _), HLL.out.1, Nat.sub_self]
              simp)
            have HPX := Lib.hid (HPA.out _ u HS.out.drew.rx)
            have l0 := HS.out.drew.box.c1
            clear hx hxd hdr hcl hggi hgl3 e2 e3
            go_upto_region 15 with fail
            refine wp_region_noPanic ?_
            refine wp_region_held_drew (S := (fun wx => wx.cell? ⟨gt, 1, none⟩ = some (.slice (some ⟨gi, 0, none⟩) n cI))) (by kernel_rfl) (l0) (fun hHeld => ?_)
            refine wpAnyH_take (i := 0) (v := ?_) (by simp only [List.getElem?_toArray, List.getElem?_cons_succ, List.getElem?_cons_zero]; rfl) (by kernel_rfl) (by kernel_rfl) (by kernel_rfl) (fun _ _ _ h => h) (Or.inl ⟨by rfl, ?_⟩) (by assumption) ?_
            rotate_left
            · (intro w hSw; (try dsimp only at hSw); go_simp; (try with_reducible rfl))
            (try simp only [Act.put, List.setIfInBounds_toArray, List.set_cons_zero, List.set_cons_succ])
            refine wpAnyH_take (i := 1) (v := ?_) (by simp only [List.getElem?_toArray, List.getElem?_cons_succ, List.getElem?_cons_zero]; rfl) (by kernel_rfl) (by kernel_rfl) (by kernel_rfl) (fun _ _ _ h => h) (Or.inl ⟨by rfl, ?_⟩) (by assumption) ?_
            rotate_left
            · (intro w hSw; (try dsimp only at hSw); go_simp; (try with_reducible rfl))
            (try simp only [Act.put, List.setIfInBounds_toArray, List.set_cons_zero, List.set_cons_succ])
            refine wpAnyH_take (i := 2) (v := ?_) (by simp only [List.getElem?_toArray, List.getElem?_cons_succ, List.getElem?_cons_zero]; rfl) (by kernel_rfl) (by kernel_rfl) (by kernel_rfl) (fun _ _ _ h => h) (Or.inl ⟨by rfl, ?_⟩) (by assumption) ?_
            rotate_left
            · (intro w hSw; (try dsimp only at hSw); go_simp; (try with_reducible rfl))
            (try simp only [Act.put, List.setIfInBounds_toArray, List.set_cons_zero, List.set_cons_succ])
            refine wpAnyH_take (i := 3) (v := ?_) (by simp only [List.getElem?_toArray, List.getElem?_cons_succ, List.getElem?_cons_zero]; rfl) (by kernel_rfl) (by kernel_rfl) (by kernel_rfl) (fun _ _ _ h => h) (Or.inl ⟨by rfl, ?_⟩) (by assumption) ?_
            rotate_left
            · (intro w hSw; (try dsimp only at hSw); go_simp; (try with_reducible rfl))
            (try simp only [Act.put, List.setIfInBounds_toArray, List.set_cons_zero, List.set_cons_succ])
            refine wpAnyH_ready (rs := [4]) (by kernel_rfl) (by simp) ?_
            refine AllReadyH.cons (by simp only [List.getElem?_toArray, List.getElem?_cons_succ, List.getElem?_cons_zero]; rfl) (fun K hK => ?_) AllReadyH.nil
            go_simp
            refine HPX.out.mono ?_
            rintro ee w5 ⟨v5, rfl, bf5, h5, t5⟩
            obtain ⟨wa5, wc5, hv5, _, _⟩ := bf5.slice
            subst hv5
            have hs5 := HS.out.drew.call h5 t5
            obtain ⟨gi2, c2', hv2, _, _, _, hso, hfr, hnx⟩ := hs5.setWit i x HX.out HCL.out (HID.out x (List.mem_of_getElem? HX.out)) (rP u).1 wa5 wc5
            injection hv2 with e1 e2 e3
            injection e1 with e1
            injection e1 with e1
            subst e1
            clear e2 e3
            obtain ⟨old, hold⟩ := Option.isSome_iff_exists.1 hso
            have tset : Tch w5 (w5.setCell ⟨gi, i * 36 + 35, none⟩ (.slice wa5 (rP u).1.length wc5)) [gi] := Tch.of_grown (grown_setCell _ _ _) (by simp)
            have HNX := Lib.hid hnx
            have HWN : Hid (∀ y ∈ LI.set i ⟨{ x.p with wit := (rP u).1 }, wa5, wc5⟩, Buf (w5.setCell ⟨gi, i * 36 + 35, none⟩ (.slice wa5 (rP u).1.length wc5)) lo3 (.slice y.wa y.p.wit.length y.wc) y.p.wit.length (strs y.p.wit)) := Lib.hid (by
              intro y hy
              rcases List.mem_or_eq_of_mem_set hy with hy | rfl
              · have h1 : Buf wr.drew lo3 _ _ _ := (HWT.out y hy).drew
                exact (h1.tch t5 (by simp; exact HLO3.out.1)).tch tset (by simp; exact HGI3.out.1)
              · have h2 : lo3 ≤ wr.drew.heap.size := by
                  show lo3 ≤ wr.heap.size
                  exact HLS.out
                exact (bf5.base_le h2).tch tset (by simp; exact HGI3.out.1))
            have HIN2 : Hid (∀ y ∈ LI.set i ⟨{ x.p with wit := (rP u).1 }, wa5, wc5⟩, y.p.id.length = 32) := Lib.hid (by
              intro y hy
              rcases List.mem_or_eq_of_mem_set hy with hy | rfl
              · exact HID.out y hy
              · exact HID.out x (List.mem_of_getElem? HX.out))
            have l5 := hs5.box.c1
            have l6 := hnx.box.c1
            have HL5 := Lib.hid l5
            have HL6 := Lib.hid l6
            have HS5 : Hid (lo3 ≤ w5.heap.size) := Lib.hid (Nat.le_trans HLS.out t5.size)
            clear bf5 h5 t5 hs5 hnx hso tset
            refine hK.out _ _ ?_ (fun hHeld => ?_)
            · exact HL5.out
            clear hK K
            (try simp only [Act.put, List.setIfInBounds_toArray, List.set_cons_zero, List.set_cons_succ])
            refine wpAnyH_take (i := 5) (v := ?_) (by simp only [List.getElem?_toArray, List.getElem?_cons_succ, List.getElem?_cons_zero]; rfl) (by kernel_rfl) (by kernel_rfl) (by kernel_rfl) (fun _ _ _ h => h) (Or.inl ⟨by rfl, ?_⟩) (by assumption) ?_
            rotate_left
            · (intro w hSw; (try dsimp only at hSw); go_simp; (try with_reducible rfl))
            (try simp only [Act.put, List.setIfInBounds_toArray, List.set_cons_zero, List.set_cons_succ])
            refine wpAnyH_take (i := 6) (v := ?_) (by simp only [List.getElem?_toArray, List.getElem?_cons_succ, List.getElem?_cons_zero]; rfl) (by kernel_rfl) (by kernel_rfl) (by kernel_rfl) (fun _ _ _ h => h) (Or.inl ⟨by rfl, ?_⟩) (by assumption) ?_
            rotate_left
            · (intro w hSw; (try dsimp only at hSw); go_simp; (try with_reducible rfl))
            (try simp only [Act.put, List.setIfInBounds_toArray, List.set_cons_zero, List.set_cons_succ])
            refine wpAnyH_ready (rs := [7]) (by kernel_rfl) (by simp) ?_
            refine AllReadyH.cons (by simp only [List.getElem?_toArray, List.getElem?_cons_succ, List.getElem?_cons_zero]; rfl) (fun K hK => ?_) AllReadyH.nil
            go_simp
            refine hK.out _ _ ?_ (fun hHeld => ?_)
            · exact HL6.out
            clear hK K
            (try simp only [Act.put, List.setIfInBounds_toArray, List.set_cons_zero, List.set_cons_succ])
            refine wpAnyH_done (by kernel_rfl) ?_ _
            refine NoPanic.normal ?_
            clear hHeld l0 l5 l6 hold hfr
            go_wp2_with fail
            go_roundg (n - (i + 1))
            case measure => omega
            case rel => exact ⟨i + 1, (rP u).2, _, _, by go_num, by omega, Nat.le_refl _, Lib.hid ⟨by rw [List.length_append, HLL.out.1]; rfl, by rw [List.length_set, HLL.out.2]⟩, Lib.hid (HMN.out wa5 wc5), HQV, HNX, HWN, HIN2, Lib.hid (by rw [World.size_setCell]; exact HS5.out)⟩
          · have hin : i = n := by omega
            have hdn : d.1.drop i = [] := List.drop_eq_nil_of_le (by have := HND.out; omega)
            have HQF : Hid (q = (done, u)) := Lib.hid (by rw [HQU.out, hdn]; simp [rWits])
            have HMP : Hid (LI.map (·.p) = q.1) := Lib.hid (by rw [HM.out, hdn, HQF.out]; simp)
            have HSQ : Hid (TxS w wr B g gt en bs q.2 VER (.slice AI n cI) LI (.slice AO f.1.length cO) f.1) := by rw [HQF.out]; exact HS
            have HWT2 : Hid (∀ x ∈ LI, Buf wr (gt + 1) (.slice x.wa x.p.wit.length x.wc) x.p.wit.length (strs x.p.wit)) := Lib.hid (fun x hx => (HWT.out x hx).base_le HLO3.out.2)
            have HZU := HZ
            clear hdn
            go_wp2_with fail
            refine (HNU.out _ _ HSQ.out.rx).mono ?_
            rintro ee w9 ⟨rfl, h9, t9⟩
            rw [← HZU.out] at h9 ⊢
            have hzl := HNL.out _ _ HSQ.out.rx
            rw [← HZU.out] at hzl
            have hz6 : (z.1 : Int) ≤ 4294967295 := by have : (256 : Nat) ^ 4 = 4294967296 := (by decide); omega
            have H9 := Lib.hid (HSQ.out.call h9 t9)
            have HFI := Lib.hid (H9.out.fin (fun x hx => (HWT2.out x hx).tch t9 (by simp; have := HGTX.out; omega)) HID.out R.1 (.int .u32 (z.1 : Int)) (by rw [HR.out]; exact HMP.out) (by rw [HR.out]))
            have x3 := H9.out.box.c3
            have f3 := H9.out.box.cold 3
            obtain ⟨W10, e10⟩ : ∃ W10, W10 = w9.setCell ⟨gt, 3, none⟩ (.int .u32 (z.1 : Int)) := ⟨_, rfl⟩
            rw [← e10] at HFI
            have HE10 := Lib.hid e10
            clear h9 t9 hzl e10
            generalize hz1 : z.1 = Z1 at *
            generalize hz2 : z.2 = Z2 at *
            clear hz1 hz2
            go_upto_region 18 with fail
            rw [← HE10.out]
            clear x3 f3
            obtain ⟨b4, r4, f4, hfin⟩ := HFI.out
            have HFN := Lib.hid hfin
            have d0 := b4.c0
            have d1 := b4.c1
            have d2 := b4.c2
            have d3 := b4.c3
            have e0 := r4.c0
            have e1 := r4.c1
            have e2 := r4.c2
            have e3 := r4.c3
            have f0 := r4.cold 0
            have f1 := r4.cold 1
            have f2 := r4.cold 2
            have f3 := r4.cold 3
            have HF4 := Lib.hid f4
            clear b4 r4 f4 hfin
            go_wp2
            have q0 := HF4.out.c0
            have q1 := HF4.out.c1
            have q2 := HF4.out.c2
            have q3 := HF4.out.c3
            refine bodyPost_ret (v := .tuple #[.agg #[.int .i32 VER, .slice AI n cI, .slice AO f.1.length cO, .int .u32 (Z1 : Int)], .bool true]) (by simp [results, Try.results27, go_sem, q0, q1, q2, q3]) rfl ⟨.slice AI n cI, LI, .slice AO f.1.length cO, ?_, ?_⟩
            · rw [HR.out]; simp only [txV]; rw [HFLAG.out]
            · rw [show R.2.2 = Z2 by rw [HR.out]]; exact HFN.out
end Go.Proofs.Ytkdkihacpjhgmaa
