/- Walks: record.All. -/
import Derived.Test.YtahbhaphodgomabDoorR5
import Derived.Deep.DeepCutAuto
namespace Go.Proofs.YtahbhaphodgomabDoor
set_option linter.unusedSimpArgs false
set_option linter.unusedVariables false
open Go.RowKit

theorem Tryd.info22 : (Tryd.prog.info? 22).map (fun i => (i.zero, i.size, i.bytes)) = some (some (.slice none 0 0), 1, 24) := by kernel_rfl

theorem nE_vals (bs : List Nat) : nE bs = 8 ∨ nE bs = 12 ∨ nE bs = 0 := by
  unfold nE
  split
  · exact .inl rfl
  · split
    · exact .inr (.inl rfl)
    · split
      · exact .inl rfl
      · split
        · exact .inr (.inl rfl)
        · exact .inr (.inr rfl)

/-- What is read, laid again, is just the front. -/
theorem next_again (bs : List Nat) (hb : ∀ c ∈ bs, c < 256) (h : nE bs = 0) : recB (nD bs) = bs.take (nN bs) ∧ nN bs ≤ bs.length ∧ (nD bs).length ≤ 1048576 ∧ (∀ c ∈ nD bs, c < 256) ∧ nN bs = 12 + (nD bs).length := by
  have hD : nD bs = (bs.drop 12).take (lv4 bs) := by unfold nD; rw [if_pos h]
  have hN : nN bs = 12 + lv4 bs := by unfold nN; rw [if_pos h]
  unfold nE at h
  by_cases h12 : bs.length < 12
  · rw [if_pos h12] at h; cases h
  · rw [if_neg h12] at h
    by_cases hbad : lv4 (bs.drop 4) ≠ ck (bs.take 4) ∨ 1048576 < lv4 bs
    · rw [if_pos hbad] at h; cases h
    · rw [if_neg hbad] at h
      by_cases hs : bs.length - 12 < lv4 bs
      · rw [if_pos hs] at h; cases h
      · rw [if_neg hs] at h
        by_cases hc : lv4 (bs.drop 8) ≠ ck ((bs.drop 12).take (lv4 bs))
        · rw [if_pos hc] at h; cases h
        · have hc' : lv4 (bs.drop 8) = ck ((bs.drop 12).take (lv4 bs)) := Classical.byContradiction hc
          have hq : lv4 (bs.drop 4) = ck (bs.take 4) := Classical.byContradiction fun h => hbad (.inl h)
          have hz : ¬ 1048576 < lv4 bs := fun h => hbad (.inr h)
          have hl : ((bs.drop 12).take (lv4 bs)).length = lv4 bs := by rw [List.length_take, List.length_drop]; exact Nat.min_eq_left (by omega)
          have t0 : M.leB (lv4 bs) 4 = bs.take 4 := M.leB_lv bs hb 4 (by omega)
          have t1 : M.leB (lv4 (bs.drop 4)) 4 = (bs.drop 4).take 4 := M.leB_lv (bs.drop 4) (fun c hc => hb c (List.mem_of_mem_drop hc)) 4 (by rw [List.length_drop]; omega)
          have t2 : M.leB (lv4 (bs.drop 8)) 4 = (bs.drop 8).take 4 := M.leB_lv (bs.drop 8) (fun c hc => hb c (List.mem_of_mem_drop hc)) 4 (by rw [List.length_drop]; omega)
          refine ⟨?_, by rw [hN]; omega, by rw [hD, hl]; omega, by rw [hD]; exact fun c hc => hb c (List.mem_of_mem_drop (List.mem_of_mem_take hc)), by rw [hN, hD, hl]⟩
          rw [hD, hN]
          unfold recB hdr
          rw [hl, t0, ← hq, t1, ← hc', t2]
          have e1 : bs.take (12 + lv4 bs) = bs.take 12 ++ (bs.drop 12).take (lv4 bs) := List.take_add
          have e2 : bs.take 12 = bs.take 8 ++ (bs.drop 8).take 4 := List.take_add (i := 8) (j := 4)
          have e3 : bs.take 8 = bs.take 4 ++ (bs.drop 4).take 4 := List.take_add (i := 4) (j := 4)
          rw [e1, e2, e3]
          simp [List.append_assoc]

/-- The records that some bytes begin with, one behind the other. -/
inductive Chain (bs : List Nat) : List (List Nat) → Nat → Prop
  | nil : Chain bs [] 0
  | snoc {ds : List (List Nat)} {a : Nat} : Chain bs ds a → nE (bs.drop a) = 0 → Chain bs (ds ++ [nD (bs.drop a)]) (a + nN (bs.drop a))

def recs (ds : List (List Nat)) : List Nat := ds.flatMap recB
theorem recs_snoc (ds : List (List Nat)) (d : List Nat) : recs (ds ++ [d]) = recs ds ++ recB d := by simp [recs]
theorem chain_take (bs : List Nat) (hb : ∀ c ∈ bs, c < 256) {ds : List (List Nat)} {a : Nat} (h : Chain bs ds a) :
    a ≤ bs.length ∧ bs.take a = recs ds ∧ (∀ d ∈ ds, d.length ≤ 1048576 ∧ ∀ c ∈ d, c < 256) ∧ 12 * ds.length ≤ a := by
  induction h with
  | nil => exact ⟨Nat.zero_le _, by simp [recs], by simp, by simp⟩
  | snoc hc h0 ih =>
    rename_i ds a
    obtain ⟨i1, i2, i3, i4⟩ := ih
    obtain ⟨q1, q2, q3, q4, q5⟩ := next_again (bs.drop a) (fun c hc => hb c (List.mem_of_mem_drop hc)) h0
    rw [List.length_drop] at q2
    refine ⟨by omega, ?_, ?_, by simp; omega⟩
    · rw [List.take_add, i2, recs_snoc, q1]
    · intro d hd
      simp only [List.mem_append, List.mem_singleton] at hd
      rcases hd with hd | rfl
      · exact i3 d hd
      · exact ⟨q3, q4⟩

/-- Slices that read as these lists, each a row of the call's own, apart from the slice u. -/
structure Els (w : World) (base : Nat) (u : Value) (vs : List Value) (ds : List (List Nat)) : Prop where
  len : vs.length = ds.length
  each : ∀ (i : Nat) (v : Value) (d : List Nat), vs[i]? = some v → ds[i]? = some d → Buf w base v d.length (bys d)
  apart : ∀ v ∈ vs, Apart u v
  one : ∀ v ∈ vs, v.oneCell' = true

theorem slice_one {w : World} {base : Nat} {v : Value} {n : Nat} {xs : List Value} (h : Buf w base v n xs) : v.oneCell' = true := by
  obtain ⟨A, c, rfl, _⟩ := h.slice
  rfl

def AllPost (w : World) (bs : List Nat) (e : Ending) (w' : World) : Prop :=
  ∃ v vs ds a, e = .returned (.tuple #[v, .int .i64 (a : Nat), .int .i64 ((if nE (bs.drop a) = 8 then 0 else 12 : Nat) : Int)]) ∧ Chain bs ds a ∧ nE (bs.drop a) ≠ 0 ∧ Buf w' w.heap.size v vs.length vs ∧ Els w' w.heap.size v vs ds ∧ Below w.heap.size w w'

set_option maxHeartbeats 1000000 in
set_option maxRecDepth 100000 in
theorem all_any (A : Option Addr) (n c : Nat) (bs : List Nat) (w : World) (hr : Rd w w.heap.size A n (bys bs)) (hb : ∀ c ∈ bs, c < 256) (hn : n ≤ 10000000) (hc : n ≤ c) (hcm : c ≤ maxLen) (ht : TabAt w) :
    Calls Tryd.prog 16 #[.slice A n c] w (AllPost w bs) := by
  obtain ⟨i0, hi, hz0, hz1, hz2⟩ := info_parts Tryd.info5
  obtain ⟨j0, hj, hy0, hy1, hy2⟩ := info_parts Tryd.info22
  have hbl : bs.length = n := by have := hr.1; rwa [bys_len] at this
  have HBL := Lib.hid hbl
  have HB := Lib.hid hb
  have HT := Lib.hid ht
  have HR0 := Lib.hid hr
  clear ht hb hbl hr
  unfold maxLen at hcm
  go_enter Tryd.func16, Tryd.ntmps16
  go_wp2_with fail
  go_loopg [5, 6] (n + 1) (fun m b i wr => ∃ (a : Nat) (vs : List Value) (ds : List (List Nat)), m = n + 1 - a ∧ a ≤ n ∧ i = .int .i64 (a : Int) ∧ Hid (Chain bs ds a) ∧ Buf wr w.heap.size b vs.length vs ∧ Els wr w.heap.size b vs ds ∧ Below w.heap.size w wr)
  case atStart => exact ⟨0, [], [], rfl, by omega, rfl, Lib.hid .nil, Buf.nil w _, ⟨rfl, fun i v d h => by simp at h, by simp, by simp⟩, Below.refl _ _⟩
  case round =>
    obtain ⟨a, vs, ds, hm, ha, rfl, HC, hbuf, hels, hbw⟩ := hrel
    have HM := Lib.hid hm
    clear hm
    have hrw := (HR0.out.below hbw)
    have hrd := hrw.drop a c (by omega) hc
    rw [← bys_drop] at hrd
    have hsl := fun wx => run_slice_l (P := Tryd.prog) wx 22 5 i0 Tryd.underlying22 hi hz1 A n c a ha .i64 (a : Int) rfl
    generalize (if c = a then A else A.map (·.add a)) = A' at *
    have HN := Lib.hid (next_any A' (n - a) (c - a) (bs.drop a) wr (hrd.up hbw.size) (fun x hx => HB.out x (List.mem_of_mem_drop hx)) (by omega) (by omega) (by unfold maxLen; omega) (HT.out.below hbw HT.out.1))
    have hct := chain_take bs HB.out HC.out
    have hdl : 12 * vs.length ≤ a := by rw [hels.len]; exact hct.2.2.2
    clear hrw hrd hct
    have hEv := nE_vals (bs.drop a)
    have HAG := Lib.hid (next_again (bs.drop a) (fun x hx => HB.out x (List.mem_of_mem_drop hx)))
    have hl2 : (bs.drop a).length = n - a := by rw [List.length_drop, HBL.out]
    go_wp2_with fail
    refine HN.out.mono ?_
    rintro e w2 ⟨v2, rfl, hl2'⟩
    have hb2 := hl2'.below (Buf.nil wr _) (Nat.le_refl _)
    have hB2 := hbw.trans (hb2.mono hbw.size)
    have hbuf2 := hbuf.below hb2 (fun k hk => (hbuf.lt k hk).2)
    have hap2 : Apart u5 v2 := fun k hk hv => by
      have h1 := (hbuf.lt k hk).2
      have h2 := (hl2'.buf.lt k hv).1
      omega
    have hels2 : Els w2 w.heap.size u5 vs ds := ⟨hels.len, fun i v d h1 h2 => (hels.each i v d h1 h2).below hb2 (fun k hk => ((hels.each i v d h1 h2).lt k hk).2), hels.apart, hels.one⟩
    have hv2 := hl2'.buf.base_le hbw.size
    have hs2 := hB2.size
    rcases hEv with hE | hE | hE
    · -- short
      have HPOST : Hid (AllPost w bs (.returned (.tuple #[u5, .int .i64 (a : Nat), .int .i64 0])) w2) :=
        Lib.hid ⟨u5, vs, ds, a, by rw [hE]; rfl, HC.out, by rw [hE]; decide, hbuf2, hels2, hB2⟩
      rw [hE]
      clear hE HAG
      go_wp2_with fail
      go_ret3
      exact HPOST.out
    · have HPOST : Hid (AllPost w bs (.returned (.tuple #[u5, .int .i64 (a : Nat), .int .i64 12])) w2) :=
        Lib.hid ⟨u5, vs, ds, a, by rw [hE]; rfl, HC.out, by rw [hE]; decide, hbuf2, hels2, hB2⟩
      rw [hE]
      clear hE HAG
      go_wp2_with fail
      go_ret3
      exact HPOST.out
    · have hag := HAG.out hE
      have hnn := hag.2.1
      rw [hl2] at hnn
      have hN12 := hag.2.2.2.2
      have HC2 := Lib.hid (Chain.snoc HC.out hE)
      have HDD : Hid (Buf w2 w.heap.size v2 (nD (bs.drop a)).length (bys (nD (bs.drop a)))) := Lib.hid hv2
      rw [hE]
      clear hE hag HAG hl2' hv2 hl2
      generalize nD (bs.drop a) = dd at *
      generalize nN (bs.drop a) = NN at *
      have h1 := slice_one HDD.out
      obtain ⟨A2, c2, ev, _, _⟩ := HDD.out.slice
      subst ev
      go_wp2_with (at_builtin; refine wpList_append_one _ rfl (.tmp 24) (.tmp 26) 36 rfl w.heap.size 22 j0 (.slice none 0 0) 24 Tryd.underlying36 hj hy0 hy1 hy2 rfl rfl hbuf2 rfl h1 ?b1 ?b2 hs2 ?next)
      case b1 => unfold maxLen; omega
      case b2 => omega
      case next =>
        intro v3 w3 r1 r2 r3
        have hB3 := hB2.grown r2 hs2 (fun k hk => (hbuf2.lt k hk).1)
        have hlaid : Laid w2 w.heap.size u5 w3 v3 (vs.length + 1) (vs ++ [.slice A2 dd.length c2]) := ⟨r1, r2, r3⟩
        have hd3 := hlaid.other HDD.out hap2
        have hels3 : Els w3 w.heap.size v3 (vs ++ [.slice A2 dd.length c2]) (ds ++ [dd]) := by
          refine ⟨by simp [hels.len], fun i v d hi1 hi2 => ?_, fun v hv => ?_, fun v hv => ?_⟩
          · by_cases hil : i < vs.length
            · rw [List.getElem?_append_left hil] at hi1
              rw [List.getElem?_append_left (by rw [← hels.len]; exact hil)] at hi2
              have hvm : v ∈ vs := List.mem_of_getElem? hi1
              exact (hlaid.other (hels2.each i v d hi1 hi2) (hels2.apart v hvm)).1
            · rw [List.getElem?_append_right (by omega)] at hi1
              rw [List.getElem?_append_right (by rw [← hels.len]; omega)] at hi2
              have e0 : i - vs.length = 0 := by have := (List.getElem?_eq_some_iff.1 hi1).1; simp at this; omega
              rw [e0] at hi1
              rw [← hels.len, e0] at hi2
              simp at hi1 hi2
              subst hi1; subst hi2
              exact hd3.1
          · simp only [List.mem_append, List.mem_singleton] at hv
            rcases hv with hv | rfl
            · obtain ⟨i, hi1⟩ := List.mem_iff_getElem?.1 hv
              have hil : i < vs.length := (List.getElem?_eq_some_iff.1 hi1).1
              obtain ⟨d, hd⟩ : ∃ d, ds[i]? = some d := ⟨_, List.getElem?_eq_getElem (by rw [← hels.len]; exact hil)⟩
              exact (hlaid.other (hels2.each i v d hi1 hd) (hels2.apart v hv)).2
            · exact hd3.2
          · simp only [List.mem_append, List.mem_singleton] at hv
            rcases hv with hv | rfl
            · exact hels.one v hv
            · exact h1
        have hadd : IntKind.i64.wrap ((a : Int) + (NN : Int)) = (a : Int) + (NN : Int) := by rw [IntWalk.i64_in _ (by omega)]
        clear r2 r3 hels2 hels hap2 hd3 hlaid
        go_wp2_with fail
        go_roundg (n + 1 - (a + NN))
        case measure => have := HM.out; omega
        case rel => exact ⟨a + NN, vs ++ [.slice A2 dd.length c2], ds ++ [dd], rfl, by omega, by go_num, HC2, by simpa using r1, hels3, hB3⟩
end Go.Proofs.YtahbhaphodgomabDoor
