/- Walks: Coins, Nowhere, First. -/
import Derived.Test.YtilleflhbodmkaaXH
import Derived.ChangeKeysEq
import Derived.Laws.StructEq
namespace Go.Proofs.Ytilleflhbodmkaa
set_option linter.unusedSimpArgs false
set_option linter.unusedVariables false
open Go.RowKit

/-- How much outputs are, if they are in their bounds. -/
def coinsM : List TOut → Int → Option Int
  | [], s => some s
  | o :: r, s => if o.coins < 0 ∨ 2100000000000000 < o.coins ∨ 2100000000000000 < s + o.coins then none else coinsM r (s + o.coins)
theorem coinsM_app : ∀ (a b : List TOut) (s : Int), coinsM (a ++ b) s = (coinsM a s).bind (coinsM b)
  | [], b, s => rfl
  | o :: a, b, s => by
    rw [List.cons_append, coinsM, coinsM]
    split
    · rfl
    · exact coinsM_app a b _
theorem coinsM_in : ∀ (l : List TOut) (s z : Int), 0 ≤ s → s ≤ 2100000000000000 → coinsM l s = some z → 0 ≤ z ∧ z ≤ 2100000000000000
  | [], s, z, h0, h1, h => by
    injection h with h; subst h; exact ⟨h0, h1⟩
  | o :: r, s, z, h0, h1, h => by
    rw [coinsM] at h
    split at h
    · cases h
    · exact coinsM_in r _ z (by omega) (by omega) h

set_option maxHeartbeats 2000000 in
set_option maxRecDepth 100000 in
theorem coins_any (w : World) (B : Nat) (t : MTx) (h : TxAt w B t) (hB : B ≤ w.heap.size) :
    Calls Try.prog 17 #[t.val] w fun e w' => e = .returned (.tuple #[.int .i64 ((coinsM t.outs 0).getD 0), .bool (coinsM t.outs 0).isSome]) ∧ Below w.heap.size w w' := by
  obtain ⟨ver, ins, ia, ic, outs, oa, oc, lock⟩ := t
  have hol : (outs.length : Int) ≤ 9223372036854775807 := by have h1 := h.ol; have h2 := h.oc; simp only at h1 h2; omega
  have HT := Lib.hid (h.up hB)
  show Calls Try.prog 17 #[.agg #[.int .i32 ver, .slice ia ins.length ic, .slice oa outs.length oc, .int .u32 (lock : Int)]] w fun e w' => e = .returned (.tuple #[.int .i64 ((coinsM outs 0).getD 0), .bool (coinsM outs 0).isSome]) ∧ Below w.heap.size w w'
  obtain ⟨CM, hCM⟩ : ∃ CM, CM = coinsM outs 0 := ⟨_, rfl⟩
  rw [← hCM]
  have HCM := Lib.hid hCM
  obtain ⟨n, hn⟩ : ∃ n, n = ins.length := ⟨_, rfl⟩
  obtain ⟨m, hm⟩ : ∃ m, m = outs.length := ⟨_, rfl⟩
  rw [← hn]
  rw [← hm] at hol ⊢
  have HM := Lib.hid hm
  obtain ⟨W3, e3⟩ : ∃ W3, W3 = w.alloc (.cells #[.int .i32 ver, .slice ia n ic, .slice oa m oc, .int .u32 (lock : Int)] 26) := ⟨_, rfl⟩
  have hB3 : Below w.heap.size w W3 := by rw [e3]; exact (Below.refl _ _).alloc (Nat.le_refl _) _
  have k0 : Bx4 W3 w.heap.size (.int .i32 ver) (.slice ia n ic) (.slice oa m oc) (.int .u32 (lock : Int)) := by rw [e3]; exact Bx4.new _ _ _ _ _ _
  have c2 := k0.c2
  have HB3 := Lib.hid hB3
  have HE3 := Lib.hid e3
  clear hB3 k0 e3 h hn hm hCM
  go_enter Try.func17, Try.ntmps17
  go_upto_region 1 with fail
  rw [← HE3.out]
  go_upto_region 3 with fail
  clear c2
  go_loopg [4, 6, 10] m (fun kx s4 s6 s10 wr => ∃ (i : Nat) (z : Int), i ≤ m ∧ s10 = .int .i64 i ∧ m - i ≤ kx ∧ s4 = .int .i64 z ∧ 0 ≤ z ∧ z ≤ 2100000000000000 ∧ Hid (coinsM (outs.take i) 0 = some z) ∧ Hid (Below w.heap.size w wr))
  case atStart => exact ⟨0, 0, Nat.zero_le _, rfl, Nat.le_refl _, rfl, by omega, by omega, Lib.hid rfl, HB3⟩
  case round =>
    obtain ⟨j, z, hj, rfl, hkj, rfl, hz0, hz1, HZ, HY⟩ := hrel
    by_cases hlj : j < m
    · obtain ⟨p, hp⟩ : ∃ p, outs[j]? = some p := ⟨_, List.getElem?_eq_getElem (by have := HM.out; omega)⟩
      obtain ⟨ga, oa2, rfl, hga, ca, cb⟩ := (HT.out.below HY.out).outp j p hp
      have HB6 : Hid (Below w.heap.size w (wr.alloc (.cells #[.int .i64 p.coins, .string (strB p.sc)] 49))) := Lib.hid (HY.out.alloc HY.out.size _)
      have HP := Lib.hid hp
      have hpc := (HT.out.ook p (List.mem_of_getElem? hp))
      have p0 := hpc.c0
      have p1 := hpc.c1
      have HSP : Hid (coinsM (outs.take (j + 1)) 0 = coinsM [p] z) := Lib.hid (by rw [take_one hp, coinsM_app, HZ.out]; rfl)
      have HAL : Hid (coinsM outs 0 = (coinsM (outs.take (j + 1)) 0).bind (coinsM (outs.drop (j + 1)))) := Lib.hid (by rw [← coinsM_app, List.take_append_drop])
      clear hp hpc
      by_cases hbad : p.coins < 0 ∨ 2100000000000000 < p.coins ∨ 2100000000000000 < z + p.coins
      · have HN : Hid (CM = none) := Lib.hid (by rw [HCM.out, HAL.out, HSP.out, coinsM, if_pos hbad]; rfl)
        by_cases b1 : p.coins < 0
        · clear hbad
          go_wp2
          go_ret2
          rw [HN.out]
          exact ⟨rfl, HB6.out⟩
        · by_cases b2 : 2100000000000000 < p.coins
          · clear hbad
            have b1' : 0 ≤ p.coins := by omega
            go_wp2
            go_ret2
            rw [HN.out]
            exact ⟨rfl, HB6.out⟩
          · have b3 : 2100000000000000 < z + p.coins := by omega
            have b1' : 0 ≤ p.coins := by omega
            have b2' : p.coins ≤ 2100000000000000 := by omega
            clear hbad
            go_wp2
            go_ret2
            rw [HN.out]
            exact ⟨rfl, HB6.out⟩
      · have HN : Hid (coinsM (outs.take (j + 1)) 0 = some (z + p.coins)) := Lib.hid (by rw [HSP.out, coinsM, if_neg hbad]; rfl)
        have b1 : ¬ p.coins < 0 := by omega
        have b1' : 0 ≤ p.coins := by omega
        have b2 : ¬ 2100000000000000 < p.coins := by omega
        have b2' : p.coins ≤ 2100000000000000 := by omega
        have b3 : ¬ 2100000000000000 < z + p.coins := by omega
        have b4 : z + p.coins ≤ 2100000000000000 := by omega
        clear hbad
        go_wp2
        go_roundg (m - (j + 1))
        case measure => omega
        case rel => exact ⟨j + 1, z + p.coins, by omega, by go_num, Nat.le_refl _, rfl, by omega, by omega, HN, HB6⟩
    · have HN : Hid (CM = some z) := Lib.hid (by rw [HCM.out, ← HZ.out, List.take_of_length_le (by have := HM.out; omega)])
      go_wp2
      go_ret2
      rw [HN.out]
      exact ⟨rfl, HY.out⟩

/-- A point's cells. -/
def ptC (id : List Nat) (o : Nat) : List Value := bys id ++ [.int .u32 (o : Int)]
theorem ptC_len {id : List Nat} {o : Nat} (h : id.length = 32) : (ptC id o).length = 33 := by simp [ptC, bys_len, h]
theorem ptC_one {id : List Nat} {o : Nat} : ∀ u ∈ ptC id o, u.oneCell' = true := by
  intro u hu
  simp only [ptC, List.mem_append, List.mem_cons, List.not_mem_nil, or_false] at hu
  rcases hu with hu | rfl
  · exact bys_one _ u hu
  · rfl
def NWP : List Value := ptC z32 4294967295
theorem built_nw : Try.prog.built 55 [(1, .int .u32 4294967295)] = some NWP.toArray := by kernel_rfl
theorem zero_pt : (Try.prog.info? 55).map (·.zero) = some (some (.agg (ptC z32 0).toArray)) := by kernel_rfl
theorem size_pt : (Try.prog.info? 55).map (·.size) = some 33 := by kernel_rfl
theorem fields_pt : ∃ f0 f1 : Field, Try.prog.fieldsOf 55 = #[f0, f1] ∧ (f0.name ≠ "_" ∧ f0.type = 53 ∧ f0.offset = 0) ∧ f1.name ≠ "_" ∧ f1.type = 24 ∧ f1.offset = 32 := by
  have h1 := Try.underlying55
  have h2 : Try.prog.underlying 55 = some (.struct (Try.prog.fieldsOf 55)) := by kernel_rfl
  rw [h1] at h2
  injection h2 with h2
  injection h2 with h2
  exact ⟨_, _, h2.symm, ⟨by decide, rfl, rfl⟩, by decide, rfl, rfl⟩
theorem stood_pt : Try.prog.stoodInHeld 55 = false := by kernel_rfl
theorem str_pt : Try.prog.underlying 55 = some (.struct (Try.prog.fieldsOf 55)) := by kernel_rfl
theorem gu_pt : Try.prog.eqGuardType Try.prog.depth 55 = false := by kernel_rfl
theorem plain_u : Try.prog.plainKey 24 = true := by kernel_rfl
theorem cells_5 : Try.prog.cellsOf 5 = 1 := by kernel_rfl
theorem part_a {P : Program} {t e : TypeId} {n s : Nat} (hu : P.underlying t = some (.array n e)) (hi : (P.info? t).map (·.size) = some s) (xs : Array Value) (off : Nat) (w : World) : (part t xs off).run P w = .ok (.agg (xs.extract off (off + s))) w := by
  cases h : P.info? t with
  | none => simp [h] at hi
  | some i =>
    have hs : i.size = s := by simpa [h] using hi
    simp [part, isAgg, run_underlying hu, sizeOf, typeInfo, h, hs]
theorem eql_bys {P : Program} (w : World) (d : Nat) (t e : TypeId) (n : Nat) (k' : IntKind) (i : TypeInfo) (hu : P.underlying t = some (.array n e)) (hi : P.info? e = some i) (hc : P.cellsOf e = 1) (he : P.underlying e = some (.int k')) (xs ys : List Nat) (hx : xs.length = n) (hy : ys.length = n) :
    (Op.equalIn (d + 2) t (.agg (bys xs).toArray) (.agg (bys ys).toArray)).run P w = .ok (decide (xs = ys)) w := by
  rw [run_equalIn_array w (d + 1) _ _ hu hi, hc, eqItems_bys w d e k' he xs ys _ (fun j hj => by have := List.mem_range.1 hj; omega), all_range_eq xs ys n hx hy]
set_option maxRecDepth 100000 in
theorem pt_eql (a b : List Nat) (x y : Nat) (ha : a.length = 32) (hb : b.length = 32) (w : World) :
    (Op.equalIn 10000 55 (.agg (ptC a x).toArray) (.agg (ptC b y).toArray)).run Try.prog w = .ok (decide (a = b) && decide (x = y)) w := by
  obtain ⟨i5, hi5, _⟩ := info_parts Try.info5
  obtain ⟨f0, f1, hf, ⟨n0, t0, o0⟩, n1, t1, o1⟩ := fields_pt
  have la : (bys a).length = 32 := by rw [bys_len]; exact ha
  have lb : (bys b).length = 32 := by rw [bys_len]; exact hb
  have ea : (ptC a x).toArray.extract 0 (0 + 32) = (bys a).toArray := by
    rw [List.extract_toArray]; congr 1
    simp only [ptC, List.extract_eq_take_drop, List.drop_zero]
    rw [List.take_append_of_le_length (by omega), List.take_of_length_le (by omega)]
  have eb : (ptC b y).toArray.extract 0 (0 + 32) = (bys b).toArray := by
    rw [List.extract_toArray]; congr 1
    simp only [ptC, List.extract_eq_take_drop, List.drop_zero]
    rw [List.take_append_of_le_length (by omega), List.take_of_length_le (by omega)]
  have xa : (ptC a x).toArray[32]? = some (.int .u32 (x : Int)) := by simp [ptC, List.getElem?_append, la]
  have xb : (ptC b y).toArray[32]? = some (.int .u32 (y : Int)) := by simp [ptC, List.getElem?_append, lb]
  have p0 : ∀ (q : List Value) w, (part f0.type q.toArray f0.offset).run Try.prog w = .ok (.agg (q.toArray.extract 0 (0 + 32))) w := fun q w => by rw [t0, o0]; exact part_a Try.underlying53 Try.sizeHash _ _ w
  have p1 : ∀ w, (part f1.type (ptC a x).toArray f1.offset).run Try.prog w = .ok (.int .u32 (x : Int)) w := fun w => by rw [t1, o1]; exact run_part_plain w plain_u xa
  have p2 : ∀ w, (part f1.type (ptC b y).toArray f1.offset).run Try.prog w = .ok (.int .u32 (y : Int)) w := fun w => by rw [t1, o1]; exact run_part_plain w plain_u xb
  have q0 : ∀ w, (Op.equalIn 9999 f0.type (.agg (bys a).toArray) (.agg (bys b).toArray)).run Try.prog w = .ok (decide (a = b)) w := fun w => by
    rw [t0]; exact eql_bys w 9997 _ 5 32 .u8 i5 Try.underlying53 hi5 cells_5 Try.underlying5 a b ha hb
  have q1 : ∀ w, (Op.equalIn 9999 f1.type (.int .u32 (x : Int)) (.int .u32 (y : Int))).run Try.prog w = .ok (decide (x = y)) w := fun w => by
    rw [t1, show (9999 : Nat) = 9998 + 1 from rfl, run_equalIn_int w 9998 _ _ _ _ _ Try.underlying24]
    congr 1
    by_cases h : x = y
    · subst h; simp
    · simp [h]; omega
  rw [show (10000 : Nat) = 9999 + 1 from rfl, run_equalIn_struct w 9999 _ _ _ str_pt stood_pt, hf]
  simp only [Op.eqFields, if_pos n0, if_pos n1, Sem.run_bind, p0, p1, p2, Result.andThen_ok, ea, eb, q0, q1]
  by_cases h1 : a = b
  · subst h1
    by_cases h2 : x = y
    · subst h2; simp [p1, p2, q1]
    · simp [p1, p2, q1, h2]
  · simp [h1]

set_option maxHeartbeats 1000000 in
set_option maxRecDepth 100000 in
theorem nowhere_any (w : World) : Calls Try.prog 19 #[] w fun e w' => e = .returned (.agg NWP.toArray) ∧ Below w.heap.size w w' := by
  have hl : NWP.length = 33 := ptC_len rfl
  have HTH := Lib.hid (show (w.alloc (.cells (ptC z32 0).toArray 55)).there w.heap.size 0 NWP.toArray.size by
    have := there_new w (ptC z32 0).toArray 55 33 (by simp [ptC_len (show z32.length = 32 from rfl)])
    simpa [hl] using this)
  have HS1 := Lib.hid (show (Try.prog.info? 55).map (·.size) = some NWP.length by rw [hl]; exact size_pt)
  have HB : Hid (Below w.heap.size w ((w.alloc (.cells (ptC z32 0).toArray 55)).setCells w.heap.size 0 NWP)) := Lib.hid (Below.setCells' ((Below.refl _ _).alloc (Nat.le_refl _) _) _ _ (Nat.le_refl _) _)
  have HS2 := Lib.hid (show (Try.prog.info? 55).map (·.size) = some NWP.toArray.size by rw [List.size_toArray, hl]; exact size_pt)
  clear hl
  go_enter Try.func19, Try.ntmps19
  go_wp2_with (first
    | (refine wpList_of_wp rfl fun K hK => wp_alloc_arr 55 rfl (ptC z32 0).toArray zero_pt (hK _ _ ?_))
    | (refine wpList_of_wp rfl fun K hK => wp_built 55 _ rfl NWP.toArray (by simpa using built_nw) (hK _ _ ?_))
    | (refine wpList_store_mid rfl 55 (.tmp 0) (.tmp 1) rfl w.heap.size 0 NWP.toArray rfl rfl HTH.out HS2.out (all_oneCell_toArray ptC_one) ?_))
  exact bodyPost_ret (results_arr1 rfl _ _ w.heap.size NWP _ rfl (World.rangeAt_setCells_same _ _ _ _ (by simpa using HTH.out)) Try.underlying55 rfl HS1.out) rfl ⟨rfl, HB.out⟩

/-- Is it the one that makes coins? -/
def firstM (ins : List MIn) : Bool := match ins with | [x] => decide (x.p.id = z32) && decide (x.p.out = 4294967295) | _ => false

theorem firstM_no {ins : List MIn} (h : ins.length ≠ 1) : firstM ins = false := by
  cases ins with
  | nil => rfl
  | cons x r =>
    cases r with
    | nil => exact absurd rfl h
    | cons y r => rfl
theorem one_of {α : Type} {l : List α} (h : l.length = 1) : ∃ x, l = [x] := List.length_eq_one_iff.1 h

set_option maxHeartbeats 2000000 in
set_option maxRecDepth 100000 in
theorem first_any (w : World) (B : Nat) (t : MTx) (h : TxAt w B t) (hB : B ≤ w.heap.size) :
    Calls Try.prog 18 #[t.val] w fun e w' => e = .returned (.bool (firstM t.ins)) ∧ Below w.heap.size w w' := by
  obtain ⟨ver, ins, ia, ic, outs, oa, oc, lock⟩ := t
  have hil : (ins.length : Int) ≤ 9223372036854775807 := by have h1 := h.il; have h2 := h.ic; simp only at h1 h2; omega
  have hic : ins.length ≤ ic := h.il
  have HT := Lib.hid (h.up hB)
  show Calls Try.prog 18 #[.agg #[.int .i32 ver, .slice ia ins.length ic, .slice oa outs.length oc, .int .u32 (lock : Int)]] w fun e w' => e = .returned (.bool (firstM ins)) ∧ Below w.heap.size w w'
  obtain ⟨m, hm⟩ : ∃ m, m = outs.length := ⟨_, rfl⟩
  rw [← hm]
  clear hm h
  by_cases h1 : ins.length = 1
  · obtain ⟨x, rfl⟩ : ∃ x, ins = [x] := one_of h1
    obtain ⟨g, off, hia, hg, hx⟩ := HT.out.inp 0 x rfl
    simp only at hia
    subst hia
    have hid := (HT.out.iat x (by simp)).ok.id
    have hpt : w.rangeAt g off (ptC x.p.id x.p.out) := by
      intro j u hu
      have := hx j u (by
        have hj : j < (ptC x.p.id x.p.out).length := (List.getElem?_eq_some_iff.1 hu).1
        show (inC x.p.id x.p.out x.p.sc x.p.seq _)[j]? = some u
        have e : inC x.p.id x.p.out x.p.sc x.p.seq (.slice x.wa x.p.wit.length x.wc) = ptC x.p.id x.p.out ++ [.string (strB x.p.sc), .int .u32 (x.p.seq : Int), .slice x.wa x.p.wit.length x.wc] := by simp [inC, ptC]
        rw [e, List.getElem?_append_left hj]; exact hu)
      simpa using this
    obtain ⟨W3, e3⟩ : ∃ W3, W3 = w.alloc (.cells #[.int .i32 ver, .slice (some ⟨g, off, none⟩) 1 ic, .slice oa m oc, .int .u32 (lock : Int)] 26) := ⟨_, rfl⟩
    have hB3 : Below w.heap.size w W3 := by rw [e3]; exact (Below.refl _ _).alloc (Nat.le_refl _) _
    have k0 : Bx4 W3 w.heap.size (.int .i32 ver) (.slice (some ⟨g, off, none⟩) 1 ic) (.slice oa m oc) (.int .u32 (lock : Int)) := by rw [e3]; exact Bx4.new _ _ _ _ _ _
    have hl : (ptC x.p.id x.p.out).length = 33 := ptC_len hid
    have HEQ := Lib.hid (fun w => pt_eql x.p.id z32 x.p.out 4294967295 hid rfl w)
    have HF : Hid (firstM [x] = (decide (x.p.id = z32) && decide (x.p.out = 4294967295))) := Lib.hid rfl
    generalize firstM [x] = R at *
    generalize (decide (x.p.id = z32) && decide (x.p.out = 4294967295)) = R2 at *
    have hRR : R = R2 := HF.out
    subst hRR
    obtain ⟨PC, hPC⟩ : ∃ PC, PC = ptC x.p.id x.p.out := ⟨_, rfl⟩
    rw [← hPC] at hpt hl HEQ
    have HPX : Hid (∀ wx : World, wx.cell? ⟨w.heap.size, 1, none⟩ = some (.slice (some ⟨g, off, none⟩) 1 ic) ∧ Below W3.heap.size W3 wx → wx.rangeAt g off PC) := Lib.hid (fun wx hx => rangeAt_below hpt (hB3.trans (hx.2.mono hB3.size)) hg)
    have HS1 := Lib.hid (show (Try.prog.info? 55).map (·.size) = some PC.length by rw [hl]; exact size_pt)
    have HB3 := Lib.hid hB3
    have HE3 := Lib.hid e3
    have HK0 := Lib.hid k0
    have hNW : ∀ wx, (Op.equalIn 10000 55 (.agg PC.toArray) (.agg NWP.toArray)).run Try.prog wx = .ok R wx := HEQ.out
    have HNW := Lib.hid hNW
    have hgu := gu_pt
    have HGU := Lib.hid hgu
    obtain ⟨NW, hNWe⟩ : ∃ NW, NW = NWP := ⟨_, rfl⟩
    have HNO := Lib.hid (fun wx => nowhere_any wx)
    rw [← hNWe] at HNW HNO
    clear hx hpt hB3 k0 e3 hid hl hPC hNW hgu hNWe h1
    go_enter Try.func18, Try.ntmps18
    go_upto_region 1 with fail
    rw [← HE3.out]
    refine wp_region_noPanic ?_
    refine wp_region_held_drew (S := (fun wx => wx.cell? ⟨w.heap.size, 1, none⟩ = some (.slice (some ⟨g, off, none⟩) 1 ic) ∧ Below W3.heap.size W3 wx)) (by kernel_rfl) (⟨HK0.out.c1, Below.drew' (Below.refl _ _)⟩) (fun hHeld => ?_)
    refine wpAnyH_take (i := 0) (v := ?_) (by simp only [List.getElem?_toArray, List.getElem?_cons_succ, List.getElem?_cons_zero]; rfl) (by kernel_rfl) (by kernel_rfl) (by kernel_rfl) (fun _ _ _ h => h) (Or.inl ⟨by rfl, ?_⟩) (by assumption) ?_
    rotate_left
    · (intro w hSw; (try dsimp only at hSw); go_simp; (try with_reducible rfl))
    (try simp only [Act.put, List.setIfInBounds_toArray, List.set_cons_zero, List.set_cons_succ])
    refine wpAnyH_take (i := 1) (v := ?_) (by simp only [List.getElem?_toArray, List.getElem?_cons_succ, List.getElem?_cons_zero]; rfl) (by kernel_rfl) (by kernel_rfl) (by kernel_rfl) (fun _ _ _ h => h) (Or.inl ⟨by rfl, ?_⟩) (by assumption) ?_
    rotate_left
    · (intro w hSw; (try dsimp only at hSw); go_simp; (try with_reducible rfl))
    (try simp only [Act.put, List.setIfInBounds_toArray, List.set_cons_zero, List.set_cons_succ])
    refine wpAnyH_take (i := 2) (v := ?_) (by simp only [List.getElem?_toArray, List.getElem?_cons_succ, List.getElem?_cons_zero]; rfl) (by kernel_rfl) (by kernel_rfl) (by kernel_rfl) (fun _ _ _ h => h) (Or.inl ⟨by rfl, ?_⟩) (by assumption) ?_
    rotate_left
    · (intro w hSw; (try dsimp only at hSw); go_simp; (try with_reducible rfl))
    (try simp only [Act.put, List.setIfInBounds_toArray, List.set_cons_zero, List.set_cons_succ])
    refine wpAnyH_take (i := 3) (v := ?_) (by simp only [List.getElem?_toArray, List.getElem?_cons_succ, List.getElem?_cons_zero]; rfl) (by kernel_rfl) (by kernel_rfl) (by kernel_rfl) (fun _ _ _ h => h) (Or.inl ⟨by rfl, ?_⟩) (by assumption) ?_
    rotate_left
    · (intro w hSw; (try dsimp only at hSw); go_simp; (try with_reducible rfl))
    (try simp only [Act.put, List.setIfInBounds_toArray, List.set_cons_zero, List.set_cons_succ])
    refine wpAnyH_take (i := 4) (v := ?_) (by simp only [List.getElem?_toArray, List.getElem?_cons_succ, List.getElem?_cons_zero]; rfl) (by kernel_rfl) (by kernel_rfl) (by kernel_rfl) (fun _ _ _ h => h) (Or.inl ⟨by rfl, ?_⟩) (by assumption) ?_
    rotate_left
    · (intro w hSw; (try dsimp only at hSw); go_simp; (try with_reducible rfl))
    (try simp only [Act.put, List.setIfInBounds_toArray, List.set_cons_zero, List.set_cons_succ])
    refine wpAnyH_take (i := 5) (v := ?_) (by simp only [List.getElem?_toArray, List.getElem?_cons_succ, List.getElem?_cons_zero]; rfl) (by kernel_rfl) (by kernel_rfl) (by kernel_rfl) (fun _ _ _ h => h) (Or.inl ⟨by rfl, ?_⟩) (by assumption) ?_
    rotate_left
    · (intro w hSw; (try dsimp only at hSw); go_simp; (try with_reducible rfl))
    (try simp only [Act.put, List.setIfInBounds_toArray, List.set_cons_zero, List.set_cons_succ])
    refine wpAnyH_take (i := 6) (v := ?_) (by simp only [List.getElem?_toArray, List.getElem?_cons_succ, List.getElem?_cons_zero]; rfl) (by kernel_rfl) (by kernel_rfl) (by kernel_rfl) (fun _ _ _ h => h) (Or.inl ⟨by rfl, ?_⟩) (by assumption) ?_
    rotate_left
    · (intro w hSw; (try dsimp only at hSw); go_simp; (try with_reducible rfl))
    (try simp only [Act.put, List.setIfInBounds_toArray, List.set_cons_zero, List.set_cons_succ])
    refine wpAnyH_take (i := 7) (v := ?_) (by simp only [List.getElem?_toArray, List.getElem?_cons_succ, List.getElem?_cons_zero]; rfl) (by kernel_rfl) (by kernel_rfl) (by kernel_rfl) (fun _ _ _ h => h) (Or.inl ⟨by rfl, ?_⟩) (by assumption) ?_
    rotate_left
    · (intro w hSw; (try dsimp only at hSw); go_simp; (try with_reducible rfl))
    (try simp only [Act.put, List.setIfInBounds_toArray, List.set_cons_zero, List.set_cons_succ])
    refine wpAnyH_take (i := 8) (v := ?_) (by simp only [List.getElem?_toArray, List.getElem?_cons_succ, List.getElem?_cons_zero]; rfl) (by kernel_rfl) (by kernel_rfl) (by kernel_rfl) (fun _ _ _ h => h) (Or.inl ⟨by rfl, ?_⟩) (by assumption) ?_
    rotate_left
    · (intro w hSw; (try dsimp only at hSw); go_simp; (try with_reducible rfl))
    (try simp only [Act.put, List.setIfInBounds_toArray, List.set_cons_zero, List.set_cons_succ])
    refine wpAnyH_take (i := 9) (v := .agg (PC).toArray) (by simp only [List.getElem?_toArray, List.getElem?_cons_succ, List.getElem?_cons_zero]; rfl) (by kernel_rfl) (by kernel_rfl) (by kernel_rfl) (fun _ _ _ h => h) (yieldsIf_load_mid (by rfl) 55 (.tmp 11) rfl g (off) rfl (PC) _ (fun wx hx => HPX.out wx hx) Try.underlying55 rfl (HS1.out)) (by assumption) ?_
    (try simp only [Act.put, List.setIfInBounds_toArray, List.set_cons_zero, List.set_cons_succ])
    refine wpAnyH_ready (rs := [10]) (by kernel_rfl) (by simp) ?_
    refine AllReadyH.cons (by simp only [List.getElem?_toArray, List.getElem?_cons_succ, List.getElem?_cons_zero]; rfl) (fun K hK => ?_) AllReadyH.nil
    go_simp
    refine (HNO.out _).mono ?_
    rintro ee w4 ⟨rfl, b4⟩
    refine hK.out _ _ ?_ (fun hHeld => ?_)
    · exact ⟨(b4.cell (p := ⟨w.heap.size, 1, none⟩) (by have := HK0.out.lt; have := hHeld.2.size; show w.heap.size < _; omega)).trans hHeld.1, hHeld.2.trans (b4.mono hHeld.2.size)⟩
    clear hK K
    (try simp only [Act.put, List.setIfInBounds_toArray, List.set_cons_zero, List.set_cons_succ])
    have hgu := HGU.out
    have hNW := HNW.out
    refine wpAnyH_take (i := 11) (v := ?_) (by simp only [List.getElem?_toArray, List.getElem?_cons_succ, List.getElem?_cons_zero]; rfl) (by kernel_rfl) (by kernel_rfl) (by kernel_rfl) (fun _ _ _ h => h) (Or.inl ⟨by rfl, ?_⟩) (by assumption) ?_
    rotate_left
    · (intro w hSw; (try dsimp only at hSw); go_simp; (try with_reducible rfl))
    (try simp only [Act.put, List.setIfInBounds_toArray, List.set_cons_zero, List.set_cons_succ])
    refine wpAnyH_take (i := 12) (v := ?_) (by simp only [List.getElem?_toArray, List.getElem?_cons_succ, List.getElem?_cons_zero]; rfl) (by kernel_rfl) (by kernel_rfl) (by kernel_rfl) (fun _ _ _ h => h) (Or.inl ⟨by rfl, ?_⟩) (by assumption) ?_
    rotate_left
    · (intro w hSw; (try dsimp only at hSw); go_simp; (try with_reducible rfl))
    (try simp only [Act.put, List.setIfInBounds_toArray, List.set_cons_zero, List.set_cons_succ])
    refine wpAnyH_take (i := 13) (v := ?_) (by simp only [List.getElem?_toArray, List.getElem?_cons_succ, List.getElem?_cons_zero]; rfl) (by kernel_rfl) (by kernel_rfl) (by kernel_rfl) (fun _ _ _ h => h) (Or.inl ⟨by rfl, ?_⟩) (by assumption) ?_
    rotate_left
    · (intro w hSw; (try dsimp only at hSw); go_simp; (try with_reducible rfl))
    (try simp only [Act.put, List.setIfInBounds_toArray, List.set_cons_zero, List.set_cons_succ])
    refine wpAnyH_done (by kernel_rfl) ?_ _
    refine NoPanic.normal ?_
    have HBF := Lib.hid hHeld.2
    clear hgu hNW hHeld b4
    go_wp2_with fail
    go_ret
    exact ⟨rfl, HB3.out.trans (HBF.out.mono HB3.out.size)⟩
  · have HF : Hid (firstM ins = false) := Lib.hid (firstM_no h1)
    obtain ⟨n, hn⟩ : ∃ n, n = ins.length := ⟨_, rfl⟩
    rw [← hn] at hil h1 ⊢
    have h1' : ((n : Int) == 1) = false := beq_eq_false_iff_ne.2 (by omega)
    have h1'' : ¬ (n : Int) = 1 := by omega
    obtain ⟨W3, e3⟩ : ∃ W3, W3 = w.alloc (.cells #[.int .i32 ver, .slice ia n ic, .slice oa m oc, .int .u32 (lock : Int)] 26) := ⟨_, rfl⟩
    have hB3 : Below w.heap.size w W3 := by rw [e3]; exact (Below.refl _ _).alloc (Nat.le_refl _) _
    have k0 : Bx4 W3 w.heap.size (.int .i32 ver) (.slice ia n ic) (.slice oa m oc) (.int .u32 (lock : Int)) := by rw [e3]; exact Bx4.new _ _ _ _ _ _
    have HB3 := Lib.hid hB3
    have HE3 := Lib.hid e3
    have HK0 := Lib.hid k0
    clear hB3 k0 e3 h1 hn hic
    go_enter Try.func18, Try.ntmps18
    go_upto_region 1 with fail
    rw [← HE3.out]
    refine wp_region_noPanic ?_
    refine wp_region_held_drew (S := (fun wx => wx.cell? ⟨w.heap.size, 1, none⟩ = some (.slice ia n ic) ∧ Below W3.heap.size W3 wx)) (by kernel_rfl) (⟨HK0.out.c1, Below.drew' (Below.refl _ _)⟩) (fun hHeld => ?_)
    refine wpAnyH_take (i := 0) (v := ?_) (by simp only [List.getElem?_toArray, List.getElem?_cons_succ, List.getElem?_cons_zero]; rfl) (by kernel_rfl) (by kernel_rfl) (by kernel_rfl) (fun _ _ _ h => h) (Or.inl ⟨by rfl, ?_⟩) (by assumption) ?_
    rotate_left
    · (intro w hSw; (try dsimp only at hSw); go_simp; (try with_reducible rfl))
    (try simp only [Act.put, List.setIfInBounds_toArray, List.set_cons_zero, List.set_cons_succ])
    refine wpAnyH_take (i := 1) (v := ?_) (by simp only [List.getElem?_toArray, List.getElem?_cons_succ, List.getElem?_cons_zero]; rfl) (by kernel_rfl) (by kernel_rfl) (by kernel_rfl) (fun _ _ _ h => h) (Or.inl ⟨by rfl, ?_⟩) (by assumption) ?_
    rotate_left
    · (intro w hSw; (try dsimp only at hSw); go_simp; (try with_reducible rfl))
    (try simp only [Act.put, List.setIfInBounds_toArray, List.set_cons_zero, List.set_cons_succ])
    refine wpAnyH_take (i := 2) (v := ?_) (by simp only [List.getElem?_toArray, List.getElem?_cons_succ, List.getElem?_cons_zero]; rfl) (by kernel_rfl) (by kernel_rfl) (by kernel_rfl) (fun _ _ _ h => h) (Or.inl ⟨by rfl, ?_⟩) (by assumption) ?_
    rotate_left
    · (intro w hSw; (try dsimp only at hSw); go_simp; (try with_reducible rfl))
    (try simp only [Act.put, List.setIfInBounds_toArray, List.set_cons_zero, List.set_cons_succ])
    refine wpAnyH_take (i := 3) (v := ?_) (by simp only [List.getElem?_toArray, List.getElem?_cons_succ, List.getElem?_cons_zero]; rfl) (by kernel_rfl) (by kernel_rfl) (by kernel_rfl) (fun _ _ _ h => h) (Or.inl ⟨by rfl, ?_⟩) (by assumption) ?_
    rotate_left
    · (intro w hSw; (try dsimp only at hSw); go_simp; (try with_reducible rfl))
    (try simp only [Act.put, List.setIfInBounds_toArray, List.set_cons_zero, List.set_cons_succ])
    refine wpAnyH_take (i := 4) (v := ?_) (by simp only [List.getElem?_toArray, List.getElem?_cons_succ, List.getElem?_cons_zero]; rfl) (by kernel_rfl) (by kernel_rfl) (by kernel_rfl) (fun _ _ _ h => h) (Or.inl ⟨by rfl, ?_⟩) (by assumption) ?_
    rotate_left
    · (intro w hSw; (try dsimp only at hSw); go_simp; (try with_reducible rfl))
    (try simp only [Act.put, List.setIfInBounds_toArray, List.set_cons_zero, List.set_cons_succ])
    refine wpAnyH_take (i := 5) (v := undef) (by simp only [List.getElem?_toArray, List.getElem?_cons_succ, List.getElem?_cons_zero]; rfl) (by kernel_rfl) (by kernel_rfl) (by kernel_rfl) (fun _ _ _ h => h) (Or.inr ⟨by rfl, rfl⟩) (by assumption) ?_
    (try simp only [Act.put, List.setIfInBounds_toArray, List.set_cons_zero, List.set_cons_succ])
    refine wpAnyH_take (i := 6) (v := undef) (by simp only [List.getElem?_toArray, List.getElem?_cons_succ, List.getElem?_cons_zero]; rfl) (by kernel_rfl) (by kernel_rfl) (by kernel_rfl) (fun _ _ _ h => h) (Or.inr ⟨by rfl, rfl⟩) (by assumption) ?_
    (try simp only [Act.put, List.setIfInBounds_toArray, List.set_cons_zero, List.set_cons_succ])
    refine wpAnyH_take (i := 7) (v := undef) (by simp only [List.getElem?_toArray, List.getElem?_cons_succ, List.getElem?_cons_zero]; rfl) (by kernel_rfl) (by kernel_rfl) (by kernel_rfl) (fun _ _ _ h => h) (Or.inr ⟨by rfl, rfl⟩) (by assumption) ?_
    (try simp only [Act.put, List.setIfInBounds_toArray, List.set_cons_zero, List.set_cons_succ])
    refine wpAnyH_take (i := 8) (v := undef) (by simp only [List.getElem?_toArray, List.getElem?_cons_succ, List.getElem?_cons_zero]; rfl) (by kernel_rfl) (by kernel_rfl) (by kernel_rfl) (fun _ _ _ h => h) (Or.inr ⟨by rfl, rfl⟩) (by assumption) ?_
    (try simp only [Act.put, List.setIfInBounds_toArray, List.set_cons_zero, List.set_cons_succ])
    refine wpAnyH_take (i := 9) (v := undef) (by simp only [List.getElem?_toArray, List.getElem?_cons_succ, List.getElem?_cons_zero]; rfl) (by kernel_rfl) (by kernel_rfl) (by kernel_rfl) (fun _ _ _ h => h) (Or.inr ⟨by rfl, rfl⟩) (by assumption) ?_
    (try simp only [Act.put, List.setIfInBounds_toArray, List.set_cons_zero, List.set_cons_succ])
    refine wpAnyH_take (i := 10) (v := undef) (by simp only [List.getElem?_toArray, List.getElem?_cons_succ, List.getElem?_cons_zero]; rfl) (by kernel_rfl) (by kernel_rfl) (by kernel_rfl) (fun _ _ _ h => h) (Or.inr ⟨by rfl, rfl⟩) (by assumption) ?_
    (try simp only [Act.put, List.setIfInBounds_toArray, List.set_cons_zero, List.set_cons_succ])
    refine wpAnyH_take (i := 11) (v := undef) (by simp only [List.getElem?_toArray, List.getElem?_cons_succ, List.getElem?_cons_zero]; rfl) (by kernel_rfl) (by kernel_rfl) (by kernel_rfl) (fun _ _ _ h => h) (Or.inr ⟨by rfl, rfl⟩) (by assumption) ?_
    (try simp only [Act.put, List.setIfInBounds_toArray, List.set_cons_zero, List.set_cons_succ])
    refine wpAnyH_take (i := 12) (v := ?_) (by simp only [List.getElem?_toArray, List.getElem?_cons_succ, List.getElem?_cons_zero]; rfl) (by kernel_rfl) (by kernel_rfl) (by kernel_rfl) (fun _ _ _ h => h) (Or.inl ⟨by rfl, ?_⟩) (by assumption) ?_
    rotate_left
    · (intro w hSw; (try dsimp only at hSw); go_simp; (try with_reducible rfl))
    (try simp only [Act.put, List.setIfInBounds_toArray, List.set_cons_zero, List.set_cons_succ])
    refine wpAnyH_take (i := 13) (v := ?_) (by simp only [List.getElem?_toArray, List.getElem?_cons_succ, List.getElem?_cons_zero]; rfl) (by kernel_rfl) (by kernel_rfl) (by kernel_rfl) (fun _ _ _ h => h) (Or.inl ⟨by rfl, ?_⟩) (by assumption) ?_
    rotate_left
    · (intro w hSw; (try dsimp only at hSw); go_simp; (try with_reducible rfl))
    (try simp only [Act.put, List.setIfInBounds_toArray, List.set_cons_zero, List.set_cons_succ])
    refine wpAnyH_done (by kernel_rfl) ?_ _
    refine NoPanic.normal ?_
    have HBF := Lib.hid hHeld.2
    clear hHeld
    go_wp2_with fail
    go_ret
    rw [HF.out]
    exact ⟨rfl, HB3.out.trans (HBF.out.mono HB3.out.size)⟩
end Go.Proofs.Ytilleflhbodmkaa
