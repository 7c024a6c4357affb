/- The walk of MemOrder. -/
import Derived.Test.YtgdkcnpgnmmliabO0
namespace Go.Proofs.Ytgdkcnpgnmmliab
set_option linter.unusedSimpArgs false
set_option linter.unusedVariables false
open Go.RowKit

/-- Two new tables and an empty row. -/
abbrev newT (w : World) : World := (w.alloc (.cells #[fCmp, .slice none 0 0] 68)).alloc (.cells #[.pointer (some ⟨w.heap.size, 0, none⟩), .int .i64 0] 61)
theorem newT_size (w : World) : (newT w).heap.size = w.heap.size + 2 := by simp [newT]
theorem newT_below (w : World) : Below w.heap.size w (newT w) := ((Below.refl _ _).alloc (Nat.le_refl _) _).alloc (by simp) _

/-- What stands of the first loop. -/
structure OrdA (w : World) (B p q r s i : Nat) (va : Value) (M : List En) (vi : Value) (I : List En) : Prop where
  few : Few M i
  ta : Tb w B p q va M
  tb : Tb w B r s (.slice none 0 0) []
  row : OwnE w B vi I
  perm : M.Perm I
  okI : ∀ y ∈ I, chkE y = 0
  ab : Aprt (ft p q va) (ft r s (.slice none 0 0))
  ai : Aprt (ft p q va) vi.ownBlock.toList
  bi : Aprt (ft r s (.slice none 0 0)) vi.ownBlock.toList
theorem OrdA.below {w w' : World} {B p q r s i : Nat} {va vi : Value} {M I : List En} (h : OrdA w B p q r s i va M vi I) (hb : Below w.heap.size w w') : OrdA w' B p q r s i va M vi I :=
  ⟨h.few, h.ta.below hb, h.tb.below hb, ownN_keep h.row (fun k hk => hb.block k (h.row.lt k hk).2), h.perm, h.okI, h.ab, h.ai, h.bi⟩
theorem row_lt {w : World} {B : Nat} {v : Value} {I : List En} (h : OwnE w B v I) : ∀ k ∈ v.ownBlock.toList, k < w.heap.size := fun k hk => (h.lt k (by simpa using hk)).2
/-- .. behind an Add that is refused. -/
theorem OrdA.no {w w' : World} {B p q r s i : Nat} {va va' vi : Value} {M I : List En} {y : En} (h : OrdA w B p q r s i va M vi I) (hr : addR M y ≠ 0) (T : Tb w' B p q va' (addL M y)) (t : Tch w w' (ft p q va)) (o : va'.ownBlock = va.ownBlock ∨ ∀ k, va'.ownBlock = some k → w.heap.size ≤ k) : OrdA w' B p q r s (i + 1) va' M vi I := by
  have hf := h.few.add y
  rw [addL_no M y hr] at T hf
  exact ⟨hf, T, h.tb.tch t h.ab.symm, own_tch h.row t h.ai.symm, h.perm, h.okI, h.ab.step h.tb.ft_lt (ft_step o), h.ai.step (row_lt h.row) (ft_step o), h.bi⟩
/-- .. behind one that is taken. -/
theorem OrdA.yes {w w' : World} {B p q r s i : Nat} {va va' vi : Value} {M I : List En} {y : En} (h : OrdA w B p q r s i va M vi I) (hr : addR M y = 0) (T : Tb w' B p q va' (addL M y)) (t : Tch w w' (ft p q va)) (o : va'.ownBlock = va.ownBlock ∨ ∀ k, va'.ownBlock = some k → w.heap.size ≤ k) :
    Tb w' B r s (.slice none 0 0) [] ∧ OwnE w' B vi I ∧ Aprt (ft p q va') (ft r s (.slice none 0 0)) ∧ Aprt (ft p q va') vi.ownBlock.toList ∧ (addL M y).Perm (I ++ [y]) ∧ (∀ z ∈ I ++ [y], chkE z = 0) := by
  obtain ⟨e1, e2, e3⟩ := addL_ok M y hr
  refine ⟨h.tb.tch t h.ab.symm, own_tch h.row t h.ai.symm, h.ab.step h.tb.ft_lt (ft_step o), h.ai.step (row_lt h.row) (ft_step o), ?_, ?_⟩
  · rw [e1]
    exact (ins_perm M y).trans ((h.perm.cons y).trans (List.perm_append_singleton y I).symm)
  · intro z hz
    rcases List.mem_append.1 hz with hz | hz
    · exact h.okI z hz
    · simp at hz; subst hz; exact e2
theorem OrdA.put {w w' : World} {B p q r s i : Nat} {va vi vi' : Value} {M I J : List En} (hf : Few M i) (Ta : Tb w B p q va M) (Tbb : Tb w B r s (.slice none 0 0) []) (hI : OwnE w B vi I) (ab : Aprt (ft p q va) (ft r s (.slice none 0 0)))
    (ai : Aprt (ft p q va) vi.ownBlock.toList) (bi : Aprt (ft r s (.slice none 0 0)) vi.ownBlock.toList) (hp : M.Perm J) (ok : ∀ z ∈ J, chkE z = 0) (hJ : OwnE w' B vi' J) (g : w.grownBy w' vi.ownBlock) (o : vi'.ownBlock = vi.ownBlock ∨ ∀ k, vi'.ownBlock = some k → w.heap.size ≤ k) : OrdA w' B p q r s i va M vi' J := by
  have t : Tch w w' vi.ownBlock.toList := Tch.of_grown g (fun k e => by simp [e])
  have st : ∀ k ∈ vi'.ownBlock.toList, k ∈ vi.ownBlock.toList ∨ w.heap.size ≤ k := fun k hk => by
    rcases o with o | o
    · exact .inl (by rw [← o]; exact hk)
    · exact .inr (o k (by simpa using hk))
  exact ⟨hf, Ta.tch t ai, Tbb.tch t bi, hJ, hp, ok, ab, (ai.symm.step Ta.ft_lt st).symm, (bi.symm.step Tbb.ft_lt st).symm⟩

set_option maxHeartbeats 4000000 in
set_option maxRecDepth 100000 in
theorem order_walk (A : Option Addr) (c : Nat) (L : List En) (nm : ByteArray) (sq : Int) (w : World) (hr : RdN w w.heap.size 4 A L.length (flat L)) (hf : ∀ x ∈ L, x.fit) (hlen : L.length ≤ maxLen) (hnm : nm.size ≤ maxLen) :
    Calls Try.prog 7 #[.slice A L.length c, .string nm, .int .u64 sq] w fun e w' => e = .returned (.bool true) ∧ Below w.heap.size w w' := by
  have HBIG := Lib.hid (fun W (hb : Below w.heap.size w W) => big_any A c L W ((hr.below hb).up hb.size) hf hlen)
  have HR := Lib.hid hr
  have HF := Lib.hid hf
  have hnk : (nm.size : Int) ≤ 9223372036854775807 := by unfold maxLen at hnm; omega
  have hlen' : (L.length : Int) ≤ 9223372036854775807 := by unfold maxLen at hlen; omega
  clear hr hf hlen hnm
  obtain ⟨bg, hbg⟩ : ∃ bg, bg = bigE L := ⟨_, rfl⟩
  rw [← hbg] at HBIG
  have HBG := Lib.hid hbg
  clear hbg
  obtain ⟨n, hn⟩ : ∃ n, n = L.length := ⟨_, rfl⟩
  rw [← hn] at HBIG hlen' ⊢
  have HN := Lib.hid hn
  clear hn
  generalize hb : w.heap.size = b at *
  have HBb := Lib.hid hb
  clear hb
  go_enter Try.func7, Try.ntmps7
  go_upto_region 3 with (go_at_call 15; refine (head_any _).mono ?_; rintro e w1 ⟨rfl, hb1⟩)
  rw [HBb.out] at hb1
  have HB1 := Lib.hid hb1
  have hs1 : b ≤ w1.heap.size := by have := hb1.size; rw [HBb.out] at this; exact this
  clear hb1
  go_wp2_with fail
  refine (HBIG.out _ HB1.out).mono ?_
  rintro e w2 ⟨rfl, hb2⟩
  have HB2 := Lib.hid (HB1.out.trans (hb2.mono hs1))
  have hs2 : b ≤ w2.heap.size := Nat.le_trans hs1 hb2.size
  clear hb2 HB1 HBIG
  cases bg with
  | true =>
    go_wp2
    go_ret
    exact ⟨rfl, HB2.out⟩
  | false =>
    by_cases hk3 : (300 : Int) < (nm.size : Int)
    · go_wp2
      go_ret
      exact ⟨rfl, HB2.out⟩
    · have hno := bigE_no L HBG.out.symm
      have h60 : n ≤ 60 := by have := hno.1; have := HN.out; omega
      clear hno
      go_upto_region 6 with (go_at_call 17; refine (new_any _).mono ?_; rintro e w' ⟨rfl, rfl⟩)
      have TA := Tb.new w2 w2.heap.size (Nat.le_refl _)
      have b3 := newT_below w2
      have z3 := newT_size w2
      change Tb (newT w2) _ _ _ _ _ at TA
      change Code.wp _ _ _ _ (newT w2)
      generalize newT w2 = w3 at *
      obtain ⟨B, hB⟩ : ∃ B, B = w2.heap.size := ⟨_, rfl⟩
      rw [← hB] at TA b3 z3 hs2 ⊢
      have HBB := Lib.hid hB
      have HZ3 := Lib.hid z3
      have HTA := Lib.hid TA
      have HB3 := Lib.hid b3
      clear hB z3 TA b3
      go_upto_region 7 with (go_at_call 17; refine (new_any _).mono ?_; rintro e w' ⟨rfl, rfl⟩)
      have TB := Tb.new w3 B (by have := HZ3.out; omega)
      have b4 := newT_below w3
      have z4 := newT_size w3
      change Tb (newT w3) _ _ _ _ _ at TB
      change Code.wp _ _ _ _ (newT w3)
      generalize newT w3 = w4 at *
      obtain ⟨C, hC⟩ : ∃ C, C = w3.heap.size := ⟨_, rfl⟩
      rw [← hC] at TB b4 z4 ⊢
      have hCB : C = B + 2 := by have := HZ3.out; omega
      have TA4 := HTA.out.below (by rw [← hC]; exact b4)
      have bw4 : Below B w2 w4 := HB3.out.trans (b4.mono (by omega))
      have HZ4 := Lib.hid z4
      have HTA4 := Lib.hid TA4
      have HTB := Lib.hid TB
      have HB4 := Lib.hid bw4
      have HCB := Lib.hid hCB
      clear hC z4 TB b4 TA4 bw4 hCB
      go_upto_region 8 with fail
      obtain ⟨D, hD⟩ : ∃ D, D = w4.heap.size := ⟨_, rfl⟩
      rw [← hD]
      have O0 : OrdA (w4.alloc (.cells #[] 42)) B (B + 1) B (C + 1) C 0 (.slice none 0 0) [] (.slice (some ⟨D, 0, none⟩) 0 0) [] := by
        have ba : Below w4.heap.size w4 (w4.alloc (.cells #[] 42)) := (Below.refl _ _).alloc (Nat.le_refl _) _
        have hn := heap_alloc_new w4 (.cells #[] 42)
        rw [← hD] at hn
        have e1 := HZ4.out
        have e2 := HCB.out
        refine ⟨Few.nil, HTA4.out.below ba, HTB.out.below ba, ⟨rfl, .inr ⟨D, 0, #[], rfl, by omega, hn, Nat.le_refl _, Nat.zero_le _, rfl, rfl⟩⟩, List.Perm.refl _, by simp, ?_, ?_, ?_⟩
        all_goals
          intro k hk hk'
          simp [ft, Value.ownBlock] at hk hk'
          omega
      have BW2 : Below B w2 (w4.alloc (.cells #[] 42)) := HB4.out.alloc (by have := HZ4.out; have := HCB.out; omega) _
      have HO0 := Lib.hid O0
      have HBW := Lib.hid BW2
      clear O0 BW2 hD HTA4 HTB HB4 HTA HB3
      generalize w4.alloc (.cells #[] 42) = w5 at *
      go_upto_region 9 with fail
      go_loopg [9, 11, 34] n (fun kx s9 s11 s34 wr => ∃ (i : Nat) (M I : List En) (va vi : Value), i ≤ n ∧ s34 = .int .i64 i ∧ n - i ≤ kx ∧ s9 = vi ∧ Hid (OrdA wr B (B + 1) B (C + 1) C i va M vi I) ∧ Hid (Below B w2 wr))
      case atStart => exact ⟨0, [], [], _, _, Nat.zero_le _, rfl, Nat.le_refl _, rfl, HO0, HBW⟩
      case round =>
        obtain ⟨i, M, I, va, vi, hi, rfl, hkx, rfl, HO, HW⟩ := hrel
        obtain ⟨Ai, ci, rfl, hnci, hcmi, _⟩ := own_rdN HO.out.row
        have hM : (M.length : Int) ≤ 60 := by have := HO.out.few.len; omega
        have hMI : M.length = I.length := HO.out.perm.length_eq
        have hI : (I.length : Int) ≤ 60 := by omega
        have hBw : Below b w wr := HB2.out.trans (HW.out.mono hs2)
        have hBs : B ≤ wr.heap.size := by have := HW.out.size; rw [← HBB.out] at this; exact this
        unfold maxLen at hcmi
        have HMI := Lib.hid hMI
        clear hMI
        by_cases hlt : i < n
        · obtain ⟨y, hy⟩ : ∃ y, L[i]? = some y := ⟨_, List.getElem?_eq_getElem (by have := HN.out; omega)⟩
          have hfit := fit_of HF.out hy
          have hsm := HO.out.few.size
          have hsM : (szE M : Int) ≤ 1000000000000 := by omega
          have HADD := Lib.hid (fun r (hr : addR M y = r) => fun W (hb : Below wr.heap.size wr W) => add_to B (B + 1) B va M (addL M y) y r W ⟨hr, rfl⟩ (HO.out.ta.below hb) (Nat.le_trans hBs hb.size) (by omega) hsM hfit.1 hfit.2.1)
          obtain ⟨g, off, rfl, hgb, c0, c1, c2, c3⟩ := (HR.out.below hBw).ent i y hy
          clear hy hfit hsm hsM
          go_upto_region 11 with fail
          generalize hw0 : wr.alloc (.cells #[.string y.k, .int .u64 y.S, .bool y.d, .string y.v] 42) = wq
          have bq : Below wr.heap.size wr wq := by rw [← hw0]; exact (Below.refl _ _).alloc (Nat.le_refl _) _
          have Yq : Bx4 wq wr.heap.size (.string y.k) (.int .u64 y.S) (.bool y.d) (.string y.v) := by rw [← hw0]; exact Bx4.new wr _ _ _ _ _
          have y0 := Yq.c0
          have y1 := Yq.c1
          have y2 := Yq.c2
          have y3 := Yq.c3
          have HBq := Lib.hid bq
          have HYq := Lib.hid Yq
          have HOq := Lib.hid (HO.out.below bq)
          clear hw0 bq Yq c0 c1 c2 c3 hBw
          by_cases hr0 : addR M y = 0
          · go_wp2_with fail
            refine (HADD.out 0 hr0 _ HBq.out).mono ?_
            rintro e w6 ⟨v6, rfl, T6, t6, o6⟩
            have hB6 : Below B wq w6 := HOq.out.ta.feet t6 (Nat.le_trans hBs HBq.out.size)
            have Y6 := HYq.out.keep (t6.block _ HYq.out.lt (fun hm => not_foot HO.out.ta hm))
            obtain ⟨p1, p2, p3, p4, p5, p6⟩ := HOq.out.yes hr0 T6 t6 o6
            have F6 := HOq.out.few.add y
            obtain ⟨ti, hti, hts, htz, htb⟩ := infoE
            have hB6w : Below B w2 w6 := HW.out.trans ((HBq.out.mono hBs).trans hB6)
            have hs6 : B ≤ w6.heap.size := by have := hB6w.size; rw [← HBB.out] at this; exact this
            have HBL : Hid (∀ (a : Value), a = y.val → (Instr.buildSlice 35 1 #[(0, a)]).run Try.prog w6 = .ok (.slice (some ⟨w6.heap.size, 0, none⟩) 1 1) (w6.alloc (.cells y.cells.toArray 42))) := Lib.hid fun a e => by
              have := run_buildSlice_rows (P := Try.prog) w6 35 42 ti (ent ⟨#[]⟩ 0 false ⟨#[]⟩) 4 Try.underlying35 hti htz hts (by omega) 1 [y.cells] rfl (by omega) (by simp [En.cells_len]) (by omega) #[(0, a)] (by rw [e]; rfl)
              simpa using this
            have b7 : Below w6.heap.size w6 (w6.alloc (.cells y.cells.toArray 42)) := (Below.refl _ _).alloc (Nat.le_refl _) _
            have r7 := RdN.new w6 4 1 y.cells 42 (0, 0) (by rw [En.cells_len])
            have q1 := p1.below b7
            have q2 : OwnE _ B (.slice Ai I.length ci) I := ownN_keep p2 (fun k hk => b7.block k (p2.lt k hk).2)
            have q3 := T6.below b7
            have s7 : (w6.alloc (.cells y.cells.toArray 42)).heap.size = w6.heap.size + 1 := by simp
            have HB7 := Lib.hid (hB6w.trans (b7.mono hs6))
            clear b7
            generalize w6.alloc (.cells y.cells.toArray 42) = w7 at *
            obtain ⟨v8, w8, run8, own8, gr8, loc8⟩ := run_appN (P := Try.prog) w7 B 35 35 42 ti (ent ⟨#[]⟩ 0 false ⟨#[]⟩) 4 48 Try.underlying35 hti htz hts htb rfl (by omega) q2 (c := 1) r7 y.one (by unfold maxLen; omega) (by omega) (by omega)
            have own8' : OwnE w8 B v8 (I ++ [y]) := by
              unfold OwnE
              rw [List.length_append, flat_append]
              simpa [flat] using own8
            have HO8 := Lib.hid (OrdA.put F6 q3 q1 q2 p3 p4 HOq.out.bi p5 p6 own8' gr8 loc8)
            have hB8 : Below B w7 w8 := Tch.below (L := (Value.slice Ai I.length ci).ownBlock.toList) (Tch.of_grown gr8 (fun k e => by simp [e])) (by omega) (fun k hk => (q2.lt k (by simpa using hk)).1)
            have HB8 := Lib.hid (HB7.out.trans hB8)
            have HR8 := Lib.hid run8
            have y0 := Y6.c0
            have y1 := Y6.c1
            have y2 := Y6.c2
            have y3 := Y6.c3
            clear T6 t6 o6 hB6 Y6 p1 p2 p3 p4 p5 p6 F6 hti hts htz htb r7 q1 q2 q3 s7 own8 own8' gr8 loc8 hB8 run8 hB6w
            go_wp2_with (first
              | (refine arm_build1 35 (.tmp 43) (v' := ?_) (w' := ?_) ?hb1 ?_; case hb1 => exact HBL.out _ rfl)
              | (refine arm_append 35 (.tmp 42) (.tmp 44) (v' := ?_) (w' := ?_) ?hr2 ?_; case hr2 => exact HR8.out))
            go_roundg (n - (i + 1))
            case measure => omega
            case rel => exact ⟨i + 1, _, _, _, _, by omega, by go_num, Nat.le_refl _, rfl, HO8, HB8⟩
          · go_wp2_with fail
            refine (HADD.out _ rfl _ HBq.out).mono ?_
            rintro e w6 ⟨v6, rfl, T6, t6, o6⟩
            have hB6 : Below B wq w6 := HOq.out.ta.feet t6 (Nat.le_trans hBs HBq.out.size)
            have HO6 := Lib.hid (HOq.out.no hr0 T6 t6 o6)
            have HB6 := Lib.hid (HW.out.trans ((HBq.out.mono hBs).trans hB6))
            generalize addR M y = r at *
            clear T6 t6 o6 hB6
            go_wp2
            go_roundg (n - (i + 1))
            case measure => omega
            case rel => exact ⟨i + 1, _, _, _, _, by omega, by go_num, Nat.le_refl _, rfl, HO6, HB6⟩
        · have HROW := Lib.hid HO.out.row
          have HD := Lib.hid (Dist.of_perm HO.out.ta.sd.srt HO.out.perm)
          have hszI := szE_perm HO.out.perm
          have hszM := HO.out.few.size
          have hszI2 : (szE I : Int) ≤ 4200000 := by rw [← hszI]; omega
          have HOK := Lib.hid HO.out.okI
          have HPM := Lib.hid HO.out.perm
          have HMS := Lib.hid HO.out.ta.sd.srt
          clear hszI hszM
          obtain ⟨m, hm⟩ : ∃ m, m = I.length := ⟨_, rfl⟩
          rw [← hm] at hnci hI ⊢
          have HMl := Lib.hid hm
          clear hm hBw
          go_upto_region 15 with fail
          go_loopg [12] m (fun kx s12 wr => ∃ (z : Int) (r : Nat) (N : List En) (vb : Value), s12 = .int .i64 z ∧ Hid (z = (r : Int) - 1) ∧ -1 ≤ z ∧ z ≤ 60 ∧ r ≤ kx ∧ Hid (r ≤ m) ∧ Hid (N.Perm (I.drop r)) ∧ Hid (Tb wr B (C + 1) C vb N) ∧ Hid (Tb wr B (B + 1) B va M) ∧ Hid (OwnE wr B (.slice Ai I.length ci) I) ∧ Hid (Aprt (ft (B + 1) B va) (ft (C + 1) C vb)) ∧ Hid (Aprt (ft (C + 1) C vb) (Value.slice Ai I.length ci).ownBlock.toList) ∧ Hid (Below B w2 wr))
          case atStart => exact ⟨_, m, [], _, rfl, Lib.hid rfl, by omega, by omega, Nat.le_refl _, Lib.hid (Nat.le_refl _), Lib.hid (by rw [List.drop_of_length_le (by rw [HMl.out]; exact Nat.le_refl _)]), Lib.hid HO.out.tb, Lib.hid HO.out.ta, HROW, Lib.hid HO.out.ab, Lib.hid HO.out.bi, HW⟩
          case round =>
            obtain ⟨z, r, N, vb, rfl, HZr, hz1, hz2, hrk, HRM, HP, HTb, HTa, HRow, HAB, HBI, HW2⟩ := hrel
            have hBs2 : B ≤ wr.heap.size := by have := HW2.out.size; rw [← HBB.out] at this; exact this
            by_cases hz0 : 0 ≤ z
            · obtain ⟨j, rfl⟩ : ∃ j : Nat, z = (j : Int) := ⟨z.toNat, by omega⟩
              have hrj : r = j + 1 := by have := HZr.out; omega
              have hP : N.Perm (I.drop (j + 1)) := by rw [← hrj]; exact HP.out
              have hjm : j < m := by have := HRM.out; omega
              rw [hrj] at hrk
              obtain ⟨y, hy⟩ : ∃ y, I[j]? = some y := ⟨_, List.getElem?_eq_getElem (by have := HMl.out; omega)⟩
              obtain ⟨a1, a2, a3⟩ := add_back HD.out hP HTb.out.sd.srt hy (HOK.out y (List.mem_of_getElem? hy))
              have hck := chkE_0 y (HOK.out y (List.mem_of_getElem? hy))
              have hNl : (N.length : Int) ≤ 60 := by have := hP.length_eq; rw [List.length_drop] at this; have := HMl.out; omega
              have hNs : (szE N : Int) ≤ 1000000000000 := by have e1 := szE_perm hP; have e2 := szE_drop I (j + 1); rw [e1]; omega
              have HADD := Lib.hid (add_to B (C + 1) C vb N (ins cmpE N y) y 0 wr ⟨a1, a2⟩ HTb.out hBs2 (by omega) hNs (by unfold maxLen; omega) (by unfold maxLen; omega))
              have HA3 := Lib.hid a3
              obtain ⟨A', c', e', _, _, hrd⟩ := own_rdN HRow.out
              injection e' with e1 e2 e3
              rw [← e1] at hrd
              obtain ⟨g, off, rfl, hgb, c0, c1, c2, c3⟩ := hrd.ent j y hy
              clear hrj hP a1 a2 a3 hck hNl hNs e1 e2 e3 hy hrd
              go_wp2_with fail
              refine HADD.out.mono ?_
              rintro e w6 ⟨v6, rfl, T6, t6, o6⟩
              have hB6 : Below B wr w6 := HTb.out.feet t6 hBs2
              have HT6 := Lib.hid T6
              have HTa6 := Lib.hid (HTa.out.tch (show Tch wr w6 (ft (C + 1) C vb) from t6) HAB.out)
              have HRow6 := Lib.hid (own_tch HRow.out (show Tch wr w6 (ft (C + 1) C vb) from t6) HBI.out.symm)
              have HAB6 := Lib.hid (HAB.out.symm.step HTa.out.ft_lt (ft_step o6)).symm
              have HBI6 := Lib.hid (HBI.out.step (row_lt HRow.out) (ft_step o6))
              have HB6 := Lib.hid (HW2.out.trans hB6)
              clear T6 t6 o6 hB6 c0 c1 c2 c3
              go_wp2
              go_roundg j
              case measure => omega
              case rel => exact ⟨_, j, _, _, rfl, Lib.hid rfl, by omega, by omega, Nat.le_refl _, Lib.hid (by omega), HA3, HT6, HTa6, HRow6, HAB6, HBI6, HB6⟩
            · have hr0 : r = 0 := by have := HZr.out; omega
              have hNM : N = M := HTb.out.sd.srt.unique ordE HMS.out ((by have := HP.out; rw [hr0] at this; exact this : N.Perm I).trans HPM.out.symm)
              have HTb' : Hid (Tb wr B (C + 1) C vb M) := Lib.hid (by rw [← hNM]; exact HTb.out)
              have HBw := Lib.hid (HB2.out.trans (HW2.out.mono hs2))
              clear hr0 hNM HTb HP
              obtain ⟨R, hR⟩ : ∃ R, R = getE M nm sq := ⟨_, rfl⟩
              obtain ⟨q, ok⟩ := R
              have HG := Lib.hid (fun gt gs v W (T : Tb W B gt gs v M) => get_to B gt gs v M nm sq q ok W hR.symm T (by omega))
              clear hR
              have hbB : b ≤ wr.heap.size := by omega
              go_upto_region 19 with fail
              go_wp2_with fail
              refine (HG.out _ _ _ _ HTa.out).mono ?_
              rintro e w7 ⟨rfl, hb7⟩
              have HTa7 := Lib.hid (HTa.out.below hb7)
              have HTb7 := Lib.hid (HTb'.out.below hb7)
              have HB7 := Lib.hid (HBw.out.trans (hb7.mono hbB))
              have hs7 : b ≤ w7.heap.size := Nat.le_trans hbB hb7.size
              clear hb7
              go_upto_region 20 with fail
              generalize hw8 : w7.alloc (.cells #[.string q.k, .int .u64 q.S, .bool q.d, .string q.v] 42) = w8
              have b8 : Below w7.heap.size w7 w8 := by rw [← hw8]; exact (Below.refl _ _).alloc (Nat.le_refl _) _
              have Q8 : Bx4 w8 w7.heap.size (.string q.k) (.int .u64 q.S) (.bool q.d) (.string q.v) := by rw [← hw8]; exact Bx4.new w7 _ _ _ _ _
              have HTa8 := Lib.hid (HTa7.out.below b8)
              have HTb8 := Lib.hid (HTb7.out.below b8)
              have HB8 := Lib.hid (HB7.out.trans (b8.mono hs7))
              have hs8 : b ≤ w8.heap.size := Nat.le_trans hs7 b8.size
              have HQ8 := Lib.hid Q8
              generalize w7.heap.size = g7 at *
              clear hw8 b8 Q8 HTa7 HTb7 HB7
              go_wp2_with fail
              refine (HG.out _ _ _ _ HTb8.out).mono ?_
              rintro e w9 ⟨rfl, hb9⟩
              have HTa9 := Lib.hid (HTa8.out.below hb9)
              have HTb9 := Lib.hid (HTb8.out.below hb9)
              have HB9 := Lib.hid (HB8.out.trans (hb9.mono hs8))
              have HQ9 := Lib.hid (HQ8.out.keep (hb9.block _ HQ8.out.lt))
              have hs9 : b ≤ w9.heap.size := Nat.le_trans hs8 hb9.size
              clear hb9 HTa8 HTb8 HB8 HQ8
              go_upto_region 21 with fail
              generalize hw10 : w9.alloc (.cells #[.string q.k, .int .u64 q.S, .bool q.d, .string q.v] 42) = w10
              have b10 : Below w9.heap.size w9 w10 := by rw [← hw10]; exact (Below.refl _ _).alloc (Nat.le_refl _) _
              have P10 : Bx4 w10 w9.heap.size (.string q.k) (.int .u64 q.S) (.bool q.d) (.string q.v) := by rw [← hw10]; exact Bx4.new w9 _ _ _ _ _
              have HTa10 := Lib.hid (HTa9.out.below b10)
              have HTb10 := Lib.hid (HTb9.out.below b10)
              have HB10 := Lib.hid (HB9.out.trans (b10.mono hs9))
              have HQ10 := Lib.hid (HQ9.out.keep (b10.block _ HQ9.out.lt))
              have HP10 := Lib.hid P10
              have hs10 : b ≤ w10.heap.size := Nat.le_trans hs9 b10.size
              generalize w9.heap.size = g9 at *
              clear hw10 b10 P10 HTa9 HTb9 HB9 HQ9
              go_wp2_with fail
              refine (all_any B _ _ _ M w10 HTa10.out (by omega)).mono ?_
              rintro e w11 ⟨v17, rfl, O11, hb11⟩
              obtain ⟨A17, c17, rfl, hn17, hc17, hr17⟩ := own_rdN O11
              have HR17 := Lib.hid hr17
              have HTa11 := Lib.hid (HTa10.out.below hb11)
              have HTb11 := Lib.hid (HTb10.out.below hb11)
              have HB11 := Lib.hid (HB10.out.trans (hb11.mono hs10))
              have HQ11 := Lib.hid (HQ10.out.keep (hb11.block _ HQ10.out.lt))
              have HP11 := Lib.hid (HP10.out.keep (hb11.block _ HP10.out.lt))
              have hs11 : b ≤ w11.heap.size := Nat.le_trans hs10 hb11.size
              unfold maxLen at hc17
              clear O11 hb11 hr17 HTa10 HTb10 HB10 HQ10 HP10
              go_upto_region 22 with fail
              go_wp2_with fail
              refine (all_any B _ _ _ M w11 HTb11.out (by omega)).mono ?_
              rintro e w12 ⟨v18, rfl, O12, hb12⟩
              obtain ⟨A18, c18, rfl, hn18, hc18, hr18⟩ := own_rdN O12
              have HR18 := Lib.hid hr18
              have HR17' := Lib.hid ((HR17.out.below hb12).up hb12.size)
              have HSa := Lib.hid (tsize_any B _ _ _ M w12 (HTa11.out.below hb12))
              have HSb := Lib.hid (tsize_any B _ _ _ M w12 (HTb11.out.below hb12))
              have HB12 := Lib.hid (HB11.out.trans (hb12.mono hs11))
              have Q12 := HQ11.out.keep (hb12.block _ HQ11.out.lt)
              have P12 := HP11.out.keep (hb12.block _ HP11.out.lt)
              have hs12 : b ≤ w12.heap.size := Nat.le_trans hs11 hb12.size
              unfold maxLen at hc18
              have k0 := Q12.c0
              have k1 := Q12.c1
              have k2 := Q12.c2
              have k3 := Q12.c3
              have l0 := P12.c0
              have l1 := P12.c1
              have l2 := P12.c2
              have l3 := P12.c3
              have hNQ := fun W => neqE_same q W
              have hG := guE
              clear O12 hb12 hr18 Q12 P12 HTa11 HTb11 HB11 HQ11 HP11
              generalize szE M = sM at *
              have hsB : ∀ gt, gt = B + 1 ∨ gt = C + 1 → Calls Try.prog 23 #[.pointer (some ⟨gt, 0, none⟩)] w12 fun e w' => e = .returned (.int .i64 (sM : Nat)) ∧ w12 = w' := by
                rintro gt (rfl | rfl)
                · exact HSa.out
                · exact HSb.out
              have HSB := Lib.hid hsB
              clear hsB
              obtain ⟨k, hk⟩ : ∃ k, k = M.length := ⟨_, rfl⟩
              rw [← hk] at hM hn17 hn18 ⊢
              have HK := Lib.hid hk
              clear hk
              cases ok
              all_goals
                go_upto_region 26 with (go_at_call 23; refine (HSB.out _ (by first | exact .inl rfl | exact .inr rfl)).mono ?_; rintro e w' ⟨rfl, rfl⟩)
                clear k0 k1 k2 k3 l0 l1 l2 l3 hNQ
                go_loopg [19, 103] k (fun kx s19 s103 wy => ∃ j : Nat, j ≤ k ∧ s103 = .int .i64 j ∧ k - j ≤ kx ∧ Hid (Below w12.heap.size w12 wy))
                case atStart => exact ⟨0, Nat.zero_le _, rfl, Nat.le_refl _, Lib.hid (Below.refl _ _)⟩
                case round =>
                  obtain ⟨j, hj, rfl, hkj, HWY⟩ := hrel
                  by_cases hlt3 : j < k
                  · obtain ⟨y, hy⟩ : ∃ y, M[j]? = some y := ⟨_, List.getElem?_eq_getElem (by have := HK.out; omega)⟩
                    obtain ⟨g, off, rfl, hgb, c0, c1, c2, c3⟩ := (HR17'.out.below HWY.out).ent j y hy
                    obtain ⟨g', off', rfl, hgb', d0, d1, d2, d3⟩ := (HR18.out.below HWY.out).ent j y hy
                    have hNY := fun W => neqE_same y W
                    clear hy
                    go_upto_region 28 with fail
                    refine wp_region_noPanic ?_
                    refine wp_region_held_drew (S := (fun wx => wx.cell? ⟨g, off + j * 4, none⟩ = some (.string y.k) ∧ wx.cell? ⟨g, off + j * 4 + 1, none⟩ = some (.int .u64 y.S) ∧ wx.cell? ⟨g, off + j * 4 + 2, none⟩ = some (.bool y.d) ∧ wx.cell? ⟨g, off + j * 4 + 3, none⟩ = some (.string y.v) ∧ wx.cell? ⟨g', off' + j * 4, none⟩ = some (.string y.k) ∧ wx.cell? ⟨g', off' + j * 4 + 1, none⟩ = some (.int .u64 y.S) ∧ wx.cell? ⟨g', off' + j * 4 + 2, none⟩ = some (.bool y.d) ∧ wx.cell? ⟨g', off' + j * 4 + 3, none⟩ = some (.string y.v))) (by kernel_rfl) (⟨c0, c1, c2, c3, d0, d1, d2, d3⟩) (fun hHeld => ?_)
                    refine wpAnyH_take (i := 0) (v := ?_) (by simp only [List.getElem?_toArray, List.getElem?_cons_succ, List.getElem?_cons_zero]; rfl) (by kernel_rfl) (by kernel_rfl) (by kernel_rfl) (fun _ _ _ h => h) (Or.inl ⟨by rfl, ?_⟩) (by assumption) ?_
                    rotate_left
                    · (intro w hSw; (try dsimp only at hSw); go_simp; (try with_reducible rfl))
                    (try simp only [Act.put, List.setIfInBounds_toArray, List.set_cons_zero, List.set_cons_succ])
                    refine wpAnyH_take (i := 1) (v := ?_) (by simp only [List.getElem?_toArray, List.getElem?_cons_succ, List.getElem?_cons_zero]; rfl) (by kernel_rfl) (by kernel_rfl) (by kernel_rfl) (fun _ _ _ h => h) (Or.inl ⟨by rfl, ?_⟩) (by assumption) ?_
                    rotate_left
                    · (intro w hSw; (try dsimp only at hSw); go_simp; (try with_reducible rfl))
                    (try simp only [Act.put, List.setIfInBounds_toArray, List.set_cons_zero, List.set_cons_succ])
                    refine wpAnyH_take (i := 2) (v := ?_) (by simp only [List.getElem?_toArray, List.getElem?_cons_succ, List.getElem?_cons_zero]; rfl) (by kernel_rfl) (by kernel_rfl) (by kernel_rfl) (fun _ _ _ h => h) (Or.inl ⟨by rfl, ?_⟩) (by assumption) ?_
                    rotate_left
                    · (intro w hSw; (try dsimp only at hSw); go_simp; (try with_reducible rfl))
                    (try simp only [Act.put, List.setIfInBounds_toArray, List.set_cons_zero, List.set_cons_succ])
                    refine wpAnyH_take (i := 3) (v := ?_) (by simp only [List.getElem?_toArray, List.getElem?_cons_succ, List.getElem?_cons_zero]; rfl) (by kernel_rfl) (by kernel_rfl) (by kernel_rfl) (fun _ _ _ h => h) (Or.inl ⟨by rfl, ?_⟩) (by assumption) ?_
                    rotate_left
                    · (intro w hSw; (try dsimp only at hSw); go_simp; (try with_reducible rfl))
                    (try simp only [Act.put, List.setIfInBounds_toArray, List.set_cons_zero, List.set_cons_succ])
                    refine wpAnyH_take (i := 4) (v := ?_) (by simp only [List.getElem?_toArray, List.getElem?_cons_succ, List.getElem?_cons_zero]; rfl) (by kernel_rfl) (by kernel_rfl) (by kernel_rfl) (fun _ _ _ h => h) (Or.inl ⟨by rfl, ?_⟩) (by assumption) ?_
                    rotate_left
                    · (intro w hSw; (try dsimp only at hSw); go_simp; (try with_reducible rfl))
                    (try simp only [Act.put, List.setIfInBounds_toArray, List.set_cons_zero, List.set_cons_succ])
                    refine wpAnyH_take (i := 5) (v := ?_) (by simp only [List.getElem?_toArray, List.getElem?_cons_succ, List.getElem?_cons_zero]; rfl) (by kernel_rfl) (by kernel_rfl) (by kernel_rfl) (fun _ _ _ h => h) (Or.inl ⟨by rfl, ?_⟩) (by assumption) ?_
                    rotate_left
                    · (intro w hSw; (try dsimp only at hSw); go_simp; (try with_reducible rfl))
                    (try simp only [Act.put, List.setIfInBounds_toArray, List.set_cons_zero, List.set_cons_succ])
                    refine wpAnyH_take (i := 6) (v := ?_) (by simp only [List.getElem?_toArray, List.getElem?_cons_succ, List.getElem?_cons_zero]; rfl) (by kernel_rfl) (by kernel_rfl) (by kernel_rfl) (fun _ _ _ h => h) (Or.inl ⟨by rfl, ?_⟩) (by assumption) ?_
                    rotate_left
                    · (intro w hSw; (try dsimp only at hSw); go_simp; (try with_reducible rfl))
                    (try simp only [Act.put, List.setIfInBounds_toArray, List.set_cons_zero, List.set_cons_succ])
                    refine wpAnyH_take (i := 7) (v := ?_) (by simp only [List.getElem?_toArray, List.getElem?_cons_succ, List.getElem?_cons_zero]; rfl) (by kernel_rfl) (by kernel_rfl) (by kernel_rfl) (fun _ _ _ h => h) (Or.inl ⟨by rfl, ?_⟩) (by assumption) ?_
                    rotate_left
                    · (intro w hSw; (try dsimp only at hSw); go_simp; (try with_reducible rfl))
                    (try simp only [Act.put, List.setIfInBounds_toArray, List.set_cons_zero, List.set_cons_succ])
                    refine wpAnyH_take (i := 8) (v := ?_) (by simp only [List.getElem?_toArray, List.getElem?_cons_succ, List.getElem?_cons_zero]; rfl) (by kernel_rfl) (by kernel_rfl) (by kernel_rfl) (fun _ _ _ h => h) (Or.inl ⟨by rfl, ?_⟩) (by assumption) ?_
                    rotate_left
                    · (intro w hSw; (try dsimp only at hSw); go_simp; (try with_reducible rfl))
                    (try simp only [Act.put, List.setIfInBounds_toArray, List.set_cons_zero, List.set_cons_succ])
                    refine wpAnyH_done (by kernel_rfl) ?_ _
                    refine NoPanic.normal ?_
                    clear hHeld c0 c1 c2 c3 d0 d1 d2 d3 hNY
                    go_wp2
                    go_roundg (k - (j + 1))
                    case measure => omega
                    case rel => exact ⟨j + 1, by omega, by go_num, Nat.le_refl _, Lib.hid HWY.out.drew⟩
                  · go_wp2
                    go_ret
                    exact ⟨rfl, HB12.out.trans (HWY.out.mono hs12)⟩
end Go.Proofs.Ytgdkcnpgnmmliab
