/- The walk of RecordNexts. -/
import Derived.Test.YtahbhaphodgomabDoorR6
import Derived.Test.YtahbhaphodgomabDoorR7
import Derived.Deep.RegionHeld3
import Derived.OwnWalk
import Derived.BigQuiet
namespace Go.Proofs.YtahbhaphodgomabDoor
set_option linter.unusedSimpArgs false
set_option linter.unusedVariables false
open Go.RowKit

theorem set_lt (m : List Nat) (p y : Nat) (hm : ∀ c ∈ m, c < 256) (hy : y < 256) : ∀ c ∈ m.set p y, c < 256 := by
  intro c hc
  rcases List.mem_or_eq_of_mem_set hc with h | rfl
  · exact hm c h
  · exact hy

/-- The number that the bytes t to 3 make, the lowest first. -/
def lvT (bs : List Nat) (t : Nat) : Nat := if t = 4 then 0 else if t = 3 then bs.getD 3 0 else if t = 2 then bs.getD 3 0 * 256 + bs.getD 2 0 else if t = 1 then (bs.getD 3 0 * 256 + bs.getD 2 0) * 256 + bs.getD 1 0 else ((bs.getD 3 0 * 256 + bs.getD 2 0) * 256 + bs.getD 1 0) * 256 + bs.getD 0 0
theorem lvT_step (bs : List Nat) (t : Nat) (h : t < 4) : lvT bs t = lvT bs (t + 1) * 256 + bs.getD t 0 := by
  obtain rfl | rfl | rfl | rfl : t = 0 ∨ t = 1 ∨ t = 2 ∨ t = 3 := by omega
  all_goals simp [lvT]
theorem lvT_lt (bs : List Nat) (hb : ∀ c ∈ bs, c < 256) (t : Nat) : lvT bs t < 4294967296 := by
  have h0 := getD_lt hb 0
  have h1 := getD_lt hb 1
  have h2 := getD_lt hb 2
  have h3 := getD_lt hb 3
  unfold lvT
  repeat' split
  all_goals omega

theorem lvT_zero (bs : List Nat) : lvT bs 0 = lv4 bs := by
  simp [lvT, lv4, M.lv]
  omega

theorem nD_len (bs : List Nat) : (nD bs).length ≤ bs.length := by
  by_cases h : nE bs = 0
  · rw [nD, if_pos h, List.length_take, List.length_drop]; omega
  · rw [nD, if_neg h]; exact Nat.zero_le _

theorem four_eq (bs : List Nat) (k N : Nat) (hb : ∀ c ∈ bs, c < 256) (hk : k + 4 ≤ bs.length) (hN : N < 4294967296) : ((strB ((bs.drop k).take 4)).toList == (strB (M.leB N 4)).toList) = decide (lv4 (bs.drop k) = N) := by
  have hd : ∀ c ∈ bs.drop k, c < 256 := fun c hc => hb c (List.mem_of_mem_drop hc)
  rw [strB_beq _ _ (fun c hc => hd c (List.mem_of_mem_take hc)) (M.leB_lt _ _)]
  congr 1
  refine propext ⟨fun h => ?_, fun h => ?_⟩
  · have := lv4_take (bs.drop k)
    rw [h] at this
    rw [← this]
    have h2 := M.lv_leB N 4 []
    rw [List.append_nil] at h2
    rw [h2]; omega
  · subst h
    exact (M.leB_lv (bs.drop k) hd 4 (by rw [List.length_drop]; omega)).symm

set_option maxHeartbeats 2000000 in
set_option maxRecDepth 100000 in
theorem nexts_walk (A : Option Addr) (n c : Nat) (bs : List Nat) (w : World) (hr : Rd w w.heap.size A n (bys bs)) (hb : ∀ c ∈ bs, c < 256) (ht : TabAt w) (hn : (n : Int) ≤ 400) (h0 : 0 < n) (hc : n ≤ c) (hcm : c ≤ maxLen) :
    Calls Tryd.prog 4 #[.slice A n c] w fun e w' => e = .returned (.bool true) ∧ Below w.heap.size w w' := by
  obtain ⟨i0, hi, hz0, hz1, hz2⟩ := info_parts Tryd.info5
  have HBL : Hid (bs.length = n) := Lib.hid (by have := hr.1; rwa [bys_len] at this)
  have HT := Lib.hid ht
  have HB := Lib.hid hb
  have hd4 : decide ((400 : Int) < (n : Int)) = false := by simp; omega
  clear ht hb
  go_enter Tryd.func4, Tryd.ntmps4
  go_wp2_with fail
  refine (head_any _ HT.out).mono ?_
  rintro e w1 ⟨rfl, hw1⟩
  have hs1 := hw1.size
  have ha1 := hr.below hw1
  obtain ⟨g, off, rfl, hg, hcs⟩ := ha1.2 h0
  have hA : (w1.alloc (.cells #[] 5)).ownsRow w1.heap.size 5 1 (.slice (some ⟨w1.heap.size, 0, none⟩) 0 0) 0 [] := World.ownsRow_lit w1 #[] 0 (Nat.le_refl _) (by unfold maxLen; omega) rfl
  have hA0 : Below w1.heap.size w1 (w1.alloc (.cells #[] 5)) := (Below.refl _ _).alloc (Nat.le_refl _) _
  have hnews : ∀ j u, (bys bs)[j]? = some u → (w1.alloc (.cells #[] 5)).cell? ((⟨g, off, none⟩ : Addr).add j) = some u := by
    intro j u hu
    rw [Addr.add_lit, hA0.cell (by simp only []; omega)]
    exact hcs j u hu
  go_wp2_with (at_builtin; refine wpList_append_own_at _ rfl (.tmp 15) (.tmp 16) 22 rfl w1.heap.size 5 i0 (.int .u8 0) 1 1 Tryd.underlying22 hi hz0 hz1 hz2 rfl (by decide) _ 0 _ rfl hA ⟨g, off, none⟩ n _ _ rfl ?a1 hnews (bys_one _) ?a2 ?a3 ?a4 ?next1)
  case a1 => rw [bys_len, HBL.out]; omega
  case a2 => unfold maxLen; omega
  case a3 => omega
  case a4 => simp
  case next1 =>
    intro v1 w2 r1 r2 r3 r4
    have hB1 := hA0.grown r2 (by simp) fun k hk => (own_lt hA k hk).1
    have r1' : w2.ownsRow w1.heap.size 5 1 v1 n (bys bs) := by simpa using r1
    clear r1 r2 r3 r4 hnews hA hA0 hcs
    obtain ⟨g1, cap1, rfl, hg1, hg1', hcap1, hcm1⟩ := own_open r1' h0
    have hw1s := hB1.size
    have HNX := Lib.hid (next_any (some ⟨g1, 0, none⟩) n cap1 bs w2 (own_rd r1') HB.out (by omega) hcap1 hcm1 (HT.out.below (hw1.trans (hB1.mono hs1)) HT.out.1))
    unfold maxLen at hcm1 hcm
    go_wp2_with fail
    refine HNX.out.mono ?_
    rintro e w3 ⟨v3, rfl, hl3⟩
    have hb3 := hl3.below (Buf.nil w2 _) (Nat.le_refl _)
    have hO3 := own_below r1' hb3 (fun k hk => (own_lt r1' k hk).2)
    have hB3 := hB1.trans (hb3.mono hw1s)
    have hdat := hl3.buf
    have hs3 := hB3.size
    obtain ⟨A3, c3, ev, hc3, _⟩ := hdat.slice
    subst ev
    have HG : Hid (∀ k, (Value.slice A3 (nD bs).length c3).ownBlock = some k → k ≠ g1) := Lib.hid (by
      intro k hk e
      have := (hdat.lt k hk).1
      omega)
    clear hl3 hb3 r1' hB1 HNX
    have hNDL : (nD bs).length ≤ n := HBL.out ▸ nD_len bs
    go_wp2_with fail
    go_loopg [26] n (fun k i wr => ∃ (j : Nat) (m : List Nat), k = n - j ∧ j ≤ n ∧ i = .int .i64 (j : Int) ∧ Below w1.heap.size w1 wr ∧ wr.ownsRow w1.heap.size 5 1 (.slice (some ⟨g1, 0, none⟩) n cap1) n (bys m) ∧ (∀ c ∈ m, c < 256) ∧ m.length = n ∧ Buf wr w2.heap.size (.slice A3 (nD bs).length c3) (nD bs).length (bys (nD bs)))
    case atStart => exact ⟨0, bs, rfl, Nat.zero_le _, rfl, hB3, hO3, HB.out, HBL.out, hdat⟩
    case round =>
      clear hO3 hB3 hdat
      obtain ⟨j, m, hk, hj, rfl, hbw, hO, hmb, hml, hdat⟩ := hrel
      have hK := Lib.hid hk
      have hML := Lib.hid hml
      clear hk hml
      by_cases hlt : j < n
      · have hlt' : (j : Int) < (n : Int) := by omega
        have hcell : wr.cell? ⟨g1, j, none⟩ = some (.int .u8 ((m.getD j 0 : Nat) : Int)) := (hO.cellAt _ (by omega)).trans (bys_get m _ (by rw [hML.out]; exact hlt))
        have hcold := hO.frozenAt j
        have hmp : m.getD j 0 < 256 := getD_lt hmb _
        have hxor : bits .xor .u8 ((m.getD j 0 : Nat) : Int) 255 = ((m.getD j 0 ^^^ 255 : Nat) : Int) := u8_xor_nat (m.getD j 0) 255 hmp (by decide)
        have hnl : m.getD j 0 ^^^ 255 < 256 := Nat.xor_lt_two_pow (n := 8) hmp (by decide)
        generalize m.getD j 0 ^^^ 255 = z at *
        generalize m.getD j 0 = mp at *
        obtain ⟨st1, st2⟩ := hO.stored j (.int .u8 (z : Int))
        have hbw2 := hbw.setCell (p := ⟨g1, j, none⟩) hg1 (.int .u8 (z : Int))
        have hst : (bys m).set j (.int .u8 (z : Int)) = bys (m.set j z) := by rw [bys, bys, List.map_set]
        rw [hst] at st1
        have hmb2 := set_lt m j z hmb hnl
        have hml2 : (m.set j z).length = n := by rw [List.length_set, hML.out]
        have hdat2 := hdat.grown st2 (fun k hk e => HG.out k hk (by injection e))
        clear hst hnl hmp
        go_wp2_with fail
        go_roundg (n - (j + 1))
        case measure => have := hK.out; omega
        case rel => exact ⟨j + 1, m.set j z, rfl, by omega, by go_num, hbw2, st1, hmb2, hml2, hdat2⟩
      · have hlt' : decide ((j : Int) < (n : Int)) = false := by simp; omega
        have hfin := hw1.trans (hbw.mono hs1)
        have hrb := hr.below hfin
        clear hO hmb hML
        by_cases h12 : n < 12
        · have hE : nE bs = 8 := by unfold nE; rw [if_pos (by rw [HBL.out]; exact h12)]
          obtain ⟨e1, e2⟩ := next_bad bs (by rw [hE]; decide)
          have h12' : (n : Int) < 12 := by omega
          rw [e1, e2, hE]
          clear hE e1 e2 hdat HG hNDL
          go_wp2_with fail
          go_ret
          exact ⟨rfl, hfin⟩
        · have h12' : decide ((n : Int) < 12) = false := by simp; omega
          have hEv := nE_vals bs
          have HNB := Lib.hid (next_bad bs)
          have hpre : (((nE bs : Nat) : Int) != 0) = false ∨ ((((nE bs : Nat) : Int) != 0) = true ∧ (nD bs).length = 0 ∧ nN bs = 0) := by
            by_cases h : nE bs = 0
            · left; simp [h]
            · right; refine ⟨by simp [h], by rw [(HNB.out h).1]; rfl, (HNB.out h).2⟩
          have HLT := Lib.hid (lvT_lt bs HB.out)
          have HE0 : ∃ E, Hid (E = nE bs) := ⟨_, Lib.hid rfl⟩
          obtain ⟨E, HE⟩ := HE0
          rw [← HE.out] at hpre hEv ⊢
          obtain ⟨DL, HDL⟩ : ∃ DL, Hid (DL = (nD bs).length) := ⟨_, Lib.hid rfl⟩
          obtain ⟨NN, HNN⟩ : ∃ NN, Hid (NN = nN bs) := ⟨_, Lib.hid rfl⟩
          rw [← HDL.out] at hpre hdat hNDL ⊢
          rw [← HNN.out] at hpre ⊢
          have hz4 : Hid (lvT bs 4 = 0) := Lib.hid rfl
          have hh2 : ((E : Int) != 0) = false ∨ (((E : Int) != 0) = true ∧ DL = 0 ∧ NN = 0) := hpre
          clear hpre
          obtain ⟨hp1⟩ | ⟨hp1, hp2, hp3⟩ := hh2
          case' inr => subst hp2; subst hp3
          all_goals
            go_wp2_with fail
            go_loopg [8, 9] 4 (fun k s i wr => ∃ t : Nat, k = t ∧ t ≤ 4 ∧ i = .int .i64 ((t : Int) - 1) ∧ s = .int .i64 ((lvT bs t : Nat) : Int) ∧ Below w1.heap.size w1 wr ∧ Buf wr w2.heap.size (.slice A3 (nD bs).length c3) (nD bs).length (bys (nD bs)))
            case atStart => exact ⟨4, rfl, Nat.le_refl _, rfl, rfl, hbw, by simpa [← HDL.out] using hdat⟩
            case round =>
              clear hfin hbw hdat hrb
              obtain ⟨t, hk, ht4, rfl, rfl, hbw, hdat⟩ := hrel
              have hK2 := Lib.hid hk
              clear hk
              have hfin := hw1.trans (hbw.mono hs1)
              have hrb := hr.below hfin
              match t, ht4, hK2 with
              | t + 1, ht4, hK2 =>
                obtain ⟨g', off', u, e', _, hu, hcell⟩ := hrb.at_ (k := t) (by omega)
                injection e' with e'
                injection e' with e1 e2
                subst e1; subst e2
                rw [bys_get bs t (by rw [HBL.out]; omega)] at hu
                injection hu with hu
                subst hu
                have hi1 : (((t + 1 : Nat) : Int) - 1) = (t : Int) := by omega
                have hL1 := HLT.out (t + 1)
                have hc8 := getD_lt HB.out t
                have HST := Lib.hid (lvT_step bs t (by omega))
                generalize lvT bs (t + 1) = S1 at *
                generalize bs.getD t 0 = ct at *
                rw [hi1]
                go_wp2_with fail
                go_roundg t
                case measure => have := hK2.out; omega
                case rel => exact ⟨t, rfl, by omega, by go_num, by rw [HST.out]; go_num, hbw, hdat⟩
              | 0, _, _ =>
                go_wp2_with fail
                obtain ⟨V, HV⟩ : ∃ V, Hid (V = lv4 bs) := ⟨_, Lib.hid rfl⟩
                have hVl : (V : Int) < 4294967296 := by rw [HV.out]; have := lv4_lt bs HB.out; omega
                rw [lvT_zero, ← HV.out]
                obtain ⟨T4, HT4⟩ : ∃ T, Hid (T = strB ((bs.drop 4).take 4)) := ⟨_, Lib.hid rfl⟩
                obtain ⟨Ca, HCKa⟩ : ∃ C, Hid (C = ck (bs.take 4)) := ⟨_, Lib.hid rfl⟩
                obtain ⟨TLa, HTLa⟩ : ∃ T, Hid (T = strB (M.leB Ca 4)) := ⟨_, Lib.hid rfl⟩
                have hCLa : (Ca : Int) < 4294967296 := by rw [HCKa.out]; have := ck_lt (bs.take 4); omega
                have HSLa : Hid ((nt (crcR (nt 0) (bs.take 4)) : Int) < 4294967296) := Lib.hid (by have := sum_lt (bs.take 4) (fun c hc => HB.out c (List.mem_of_mem_take hc)); omega)
                have hsl4 : ∀ wx : World, (Instr.slice 22 (.slice (some ⟨g, off, none⟩) n c) (some (.int .i64 4)) (some (.int .i64 8)) none).run Tryd.prog wx = .ok (.slice (some ⟨g, off + 4, none⟩) 4 (c - 4)) wx := fun wx => by
                  have := run_slice_lh (P := Tryd.prog) wx 22 5 i0 Tryd.underlying22 hi hz1 (some ⟨g, off, none⟩) n c 4 8 (by omega) (by omega) .i64 .i64 4 8 rfl rfl
                  rw [if_neg (by omega)] at this; exact this
                have hslh : ∀ wx : World, (Instr.slice 22 (.slice (some ⟨g, off, none⟩) n c) none (some (.int .i64 4)) none).run Tryd.prog wx = .ok (.slice (some ⟨g, off, none⟩) 4 c) wx := fun wx => run_slice_h (P := Tryd.prog) wx 22 5 i0 Tryd.underlying22 hi hz1 _ n c 4 (by omega) .i64 4 rfl
                have HCVa : Hid (∀ wx : World, Below w.heap.size w wx → (convert 22 9 (.slice (some ⟨g, off + 4, none⟩) 4 (c - 4))).run Tryd.prog wx = .ok (.string T4) wx) := Lib.hid (fun wx hb => by
                  have hm := (hr.below hb).mid 4 8 c (by omega) (by omega) hc
                  rw [if_neg (by omega), ← bys_drop, ← bys_take] at hm
                  rw [HT4.out]
                  exact run_conv (P := Tryd.prog) (c - 4) hm 22 9 5 Tryd.underlying22 Tryd.underlying5 Tryd.underlying9)
                have HSMa : Hid (∀ wx : World, Below w.heap.size w wx → Calls Tryd.prog 15 #[.slice (some ⟨g, off, none⟩) 4 c] wx fun e w' => e = .returned (.int .u32 ((nt (crcR (nt 0) (bs.take 4)) : Nat) : Int)) ∧ Below wx.heap.size wx w') := Lib.hid (fun wx hb => by
                  have hm := (hr.below hb).take 4 (by omega)
                  rw [← bys_take] at hm
                  exact refsum_any _ 4 c (bs.take 4) wx (hm.up hb.size) (fun c hc => HB.out c (List.mem_of_mem_take hc)) (by omega))
                have hS4 : (fun w' => (convert 22 9 (.slice (some ⟨g, off + 4, none⟩) 4 (c - 4))).run Tryd.prog w' = .ok (.string T4) w' ∧ Below w.heap.size w w' ∧ Buf w' w2.heap.size (.slice A3 (nD bs).length c3) (nD bs).length (bys (nD bs))) wr.drew := ⟨HCVa.out _ hfin.drew, hfin.drew, hdat.drew⟩
                clear hdat hbw hrb
                by_cases h1 : lv4 (bs.drop 4) = ck (bs.take 4)
                · have hTa : (T4.toList == TLa.toList) = true := by rw [HT4.out, HTLa.out, HCKa.out, four_eq bs 4 _ HB.out (by rw [HBL.out]; omega) (ck_lt _)]; simpa using h1
                  by_cases h2 : 1048576 < V
                  · have hEq : nE bs = 12 := by rw [nE, if_neg (by rw [HBL.out]; exact h12), if_pos (Or.inr (by rw [← HV.out]; exact h2))]
                    rw [← HE.out] at hEq
                    subst hEq
                    have hbig : (1048576 : Int) < (V : Int) := by omega
                    refine wp_region_noPanic ?_
                    refine wp_region_held_drew (S := (fun w' => (convert 22 9 (.slice (some ⟨g, off + 4, none⟩) 4 (c - 4))).run Tryd.prog w' = .ok (.string T4) w' ∧ Below w.heap.size w w' ∧ Buf w' w2.heap.size (.slice A3 (nD bs).length c3) (nD bs).length (bys (nD bs)))) (by kernel_rfl) (hS4) (fun hHeld => ?_)
                    refine wpAnyH_take (i := 0) (v := ?_) (by simp only [List.getElem?_toArray, List.getElem?_cons_succ, List.getElem?_cons_zero]; rfl) (by kernel_rfl) (by kernel_rfl) (by kernel_rfl) (fun _ _ _ h => h) (Or.inl ⟨by rfl, ?_⟩) (by assumption) ?_
                    rotate_left
                    · (intro w hSw; (try dsimp only at hSw); go_simp; (try with_reducible rfl))
                    (try simp only [Act.put, List.setIfInBounds_toArray, List.set_cons_zero, List.set_cons_succ])
                    refine wpAnyH_take (i := 1) (v := .slice (some ⟨g, off + 4, none⟩) 4 (c - 4)) (by simp only [List.getElem?_toArray, List.getElem?_cons_succ, List.getElem?_cons_zero]; rfl) (by kernel_rfl) (by kernel_rfl) (by kernel_rfl) (fun _ _ _ h => h) (Or.inl ⟨by rfl, ?_⟩) (by assumption) ?_
                    · (intro w hSw; (try dsimp only at hSw); go_simp; (try simp [hsl4]))
                    (try simp only [Act.put, List.setIfInBounds_toArray, List.set_cons_zero, List.set_cons_succ])
                    refine wpAnyH_take (i := 2) (v := .string T4) (by simp only [List.getElem?_toArray, List.getElem?_cons_succ, List.getElem?_cons_zero]; rfl) (by kernel_rfl) (by kernel_rfl) (by kernel_rfl) (fun _ _ _ h => h) (Or.inl ⟨by rfl, ?_⟩) (by assumption) ?_
                    · (intro w hSw; (try dsimp only at hSw); go_simp; (try simp))
                    (try simp only [Act.put, List.setIfInBounds_toArray, List.set_cons_zero, List.set_cons_succ])
                    refine wpAnyH_take (i := 3) (v := ?_) (by simp only [List.getElem?_toArray, List.getElem?_cons_succ, List.getElem?_cons_zero]; rfl) (by kernel_rfl) (by kernel_rfl) (by kernel_rfl) (fun _ _ _ h => h) (Or.inl ⟨by rfl, ?_⟩) (by assumption) ?_
                    rotate_left
                    · (intro w hSw; (try dsimp only at hSw); go_simp; (try with_reducible rfl))
                    (try simp only [Act.put, List.setIfInBounds_toArray, List.set_cons_zero, List.set_cons_succ])
                    refine wpAnyH_take (i := 4) (v := .slice (some ⟨g, off, none⟩) 4 c) (by simp only [List.getElem?_toArray, List.getElem?_cons_succ, List.getElem?_cons_zero]; rfl) (by kernel_rfl) (by kernel_rfl) (by kernel_rfl) (fun _ _ _ h => h) (Or.inl ⟨by rfl, ?_⟩) (by assumption) ?_
                    · (intro w hSw; (try dsimp only at hSw); go_simp; (try simp [hslh]))
                    (try simp only [Act.put, List.setIfInBounds_toArray, List.set_cons_zero, List.set_cons_succ])
                    refine wpAnyH_ready (rs := [5]) (by kernel_rfl) (by simp) ?_
                    refine AllReadyH.cons (by simp only [List.getElem?_toArray, List.getElem?_cons_succ, List.getElem?_cons_zero]; rfl) (fun K hK => ?_) AllReadyH.nil
                    go_simp
                    refine (HSMa.out _ hHeld.2.1).mono ?_
                    rintro q w4 ⟨rfl, hb4⟩
                    go_simp
                    refine hK.out _ _ ?_ (fun hHeld => ?_)
                    · exact ⟨HCVa.out _ (hHeld.2.1.trans (hb4.mono hHeld.2.1.size)), hHeld.2.1.trans (hb4.mono hHeld.2.1.size), hHeld.2.2.below hb4 (fun k hk => (hHeld.2.2.lt k hk).2)⟩
                    clear hK K
                    (try simp only [Act.put, List.setIfInBounds_toArray, List.set_cons_zero, List.set_cons_succ])
                    refine wpAnyH_ready (rs := [6]) (by kernel_rfl) (by simp) ?_
                    refine AllReadyH.cons (by simp only [List.getElem?_toArray, List.getElem?_cons_succ, List.getElem?_cons_zero]; rfl) (fun K hK => ?_) AllReadyH.nil
                    go_simp
                    refine (refmask_any _ HSLa.out w4).mono ?_
                    rintro q w5 ⟨rfl, hb5⟩
                    rw [ck_eq, ← HCKa.out]
                    go_simp
                    refine hK.out _ _ ?_ (fun hHeld => ?_)
                    · exact ⟨HCVa.out _ (hHeld.2.1.trans (hb5.mono hHeld.2.1.size)), hHeld.2.1.trans (hb5.mono hHeld.2.1.size), hHeld.2.2.below hb5 (fun k hk => (hHeld.2.2.lt k hk).2)⟩
                    clear hK K
                    (try simp only [Act.put, List.setIfInBounds_toArray, List.set_cons_zero, List.set_cons_succ])
                    refine wpAnyH_ready (rs := [7]) (by kernel_rfl) (by simp) ?_
                    refine AllReadyH.cons (by simp only [List.getElem?_toArray, List.getElem?_cons_succ, List.getElem?_cons_zero]; rfl) (fun K hK => ?_) AllReadyH.nil
                    go_simp
                    refine (lit_any Ca hCLa w5).mono ?_
                    rintro q w6 ⟨v6, rfl, hu6, hb6⟩
                    obtain ⟨A6, c6, rfl, _, _, hr6⟩ := hu6.rd
                    go_simp
                    refine hK.out _ _ ?_ (fun hHeld => ?_)
                    · exact ⟨HCVa.out _ (hHeld.2.1.trans (hb6.mono hHeld.2.1.size)), hHeld.2.1.trans (hb6.mono hHeld.2.1.size), hHeld.2.2.below hb6 (fun k hk => (hHeld.2.2.lt k hk).2)⟩
                    clear hK K
                    (try simp only [Act.put, List.setIfInBounds_toArray, List.set_cons_zero, List.set_cons_succ])
                    have hcv6 : (convert 22 9 (.slice A6 4 c6)).run Tryd.prog w6 = .ok (.string TLa) w6 := by
                      have := run_conv (P := Tryd.prog) c6 hr6 22 9 5 Tryd.underlying22 Tryd.underlying5 Tryd.underlying9
                      rw [HTLa.out]; exact this
                    refine wpAnyH_ready (rs := [8]) (by kernel_rfl) (by simp) ?_
                    refine AllReadyH.cons (by simp only [List.getElem?_toArray, List.getElem?_cons_succ, List.getElem?_cons_zero]; rfl) (fun K hK => ?_) AllReadyH.nil
                    go_simp
                    skip
                    refine hK.out _ _ ?_ (fun hHeld => ?_)
                    · exact hHeld
                    clear hK K
                    (try simp only [Act.put, List.setIfInBounds_toArray, List.set_cons_zero, List.set_cons_succ])
                    refine wpAnyH_take (i := 9) (v := .bool false) (by simp only [List.getElem?_toArray, List.getElem?_cons_succ, List.getElem?_cons_zero]; rfl) (by kernel_rfl) (by kernel_rfl) (by kernel_rfl) (fun _ _ _ h => h) (Or.inl ⟨by rfl, ?_⟩) (by assumption) ?_
                    · (intro w hSw; (try dsimp only at hSw); go_simp; (try simp [hTa]))
                    (try simp only [Act.put, List.setIfInBounds_toArray, List.set_cons_zero, List.set_cons_succ])
                    refine wpAnyH_take (i := 10) (v := ?_) (by simp only [List.getElem?_toArray, List.getElem?_cons_succ, List.getElem?_cons_zero]; rfl) (by kernel_rfl) (by kernel_rfl) (by kernel_rfl) (fun _ _ _ h => h) (Or.inl ⟨by rfl, ?_⟩) (by assumption) ?_
                    rotate_left
                    · (intro w hSw; (try dsimp only at hSw); go_simp; (try with_reducible rfl))
                    (try simp only [Act.put, List.setIfInBounds_toArray, List.set_cons_zero, List.set_cons_succ])
                    refine wpAnyH_take (i := 11) (v := ?_) (by simp only [List.getElem?_toArray, List.getElem?_cons_succ, List.getElem?_cons_zero]; rfl) (by kernel_rfl) (by kernel_rfl) (by kernel_rfl) (fun _ _ _ h => h) (Or.inl ⟨by rfl, ?_⟩) (by assumption) ?_
                    rotate_left
                    · (intro w hSw; (try dsimp only at hSw); go_simp; (try with_reducible rfl))
                    (try simp only [Act.put, List.setIfInBounds_toArray, List.set_cons_zero, List.set_cons_succ])
                    refine wpAnyH_take (i := 12) (v := .bool true) (by simp only [List.getElem?_toArray, List.getElem?_cons_succ, List.getElem?_cons_zero]; rfl) (by kernel_rfl) (by kernel_rfl) (by kernel_rfl) (fun _ _ _ h => h) (Or.inl ⟨by rfl, ?_⟩) (by assumption) ?_
                    · (intro w hSw; (try dsimp only at hSw); go_simp; (try simp [hbig]))
                    (try simp only [Act.put, List.setIfInBounds_toArray, List.set_cons_zero, List.set_cons_succ])
                    refine wpAnyH_take (i := 13) (v := ?_) (by simp only [List.getElem?_toArray, List.getElem?_cons_succ, List.getElem?_cons_zero]; rfl) (by kernel_rfl) (by kernel_rfl) (by kernel_rfl) (fun _ _ _ h => h) (Or.inl ⟨by rfl, ?_⟩) (by assumption) ?_
                    rotate_left
                    · (intro w hSw; (try dsimp only at hSw); go_simp; (try with_reducible rfl))
                    (try simp only [Act.put, List.setIfInBounds_toArray, List.set_cons_zero, List.set_cons_succ])
                    refine wpAnyH_done (by kernel_rfl) ?_ _
                    refine NoPanic.normal ?_
                    obtain ⟨_, hfin6, hbuf6⟩ := hHeld
                    go_wp2_with fail
                    go_ret
                    exact ⟨rfl, hfin6⟩
                  · have hbig : decide ((1048576 : Int) < (V : Int)) = false := by simp; omega
                    refine wp_region_noPanic ?_
                    refine wp_region_held_drew (S := (fun w' => (convert 22 9 (.slice (some ⟨g, off + 4, none⟩) 4 (c - 4))).run Tryd.prog w' = .ok (.string T4) w' ∧ Below w.heap.size w w' ∧ Buf w' w2.heap.size (.slice A3 (nD bs).length c3) (nD bs).length (bys (nD bs)))) (by kernel_rfl) (hS4) (fun hHeld => ?_)
                    refine wpAnyH_take (i := 0) (v := ?_) (by simp only [List.getElem?_toArray, List.getElem?_cons_succ, List.getElem?_cons_zero]; rfl) (by kernel_rfl) (by kernel_rfl) (by kernel_rfl) (fun _ _ _ h => h) (Or.inl ⟨by rfl, ?_⟩) (by assumption) ?_
                    rotate_left
                    · (intro w hSw; (try dsimp only at hSw); go_simp; (try with_reducible rfl))
                    (try simp only [Act.put, List.setIfInBounds_toArray, List.set_cons_zero, List.set_cons_succ])
                    refine wpAnyH_take (i := 1) (v := .slice (some ⟨g, off + 4, none⟩) 4 (c - 4)) (by simp only [List.getElem?_toArray, List.getElem?_cons_succ, List.getElem?_cons_zero]; rfl) (by kernel_rfl) (by kernel_rfl) (by kernel_rfl) (fun _ _ _ h => h) (Or.inl ⟨by rfl, ?_⟩) (by assumption) ?_
                    · (intro w hSw; (try dsimp only at hSw); go_simp; (try simp [hsl4]))
                    (try simp only [Act.put, List.setIfInBounds_toArray, List.set_cons_zero, List.set_cons_succ])
                    refine wpAnyH_take (i := 2) (v := .string T4) (by simp only [List.getElem?_toArray, List.getElem?_cons_succ, List.getElem?_cons_zero]; rfl) (by kernel_rfl) (by kernel_rfl) (by kernel_rfl) (fun _ _ _ h => h) (Or.inl ⟨by rfl, ?_⟩) (by assumption) ?_
                    · (intro w hSw; (try dsimp only at hSw); go_simp; (try simp))
                    (try simp only [Act.put, List.setIfInBounds_toArray, List.set_cons_zero, List.set_cons_succ])
                    refine wpAnyH_take (i := 3) (v := ?_) (by simp only [List.getElem?_toArray, List.getElem?_cons_succ, List.getElem?_cons_zero]; rfl) (by kernel_rfl) (by kernel_rfl) (by kernel_rfl) (fun _ _ _ h => h) (Or.inl ⟨by rfl, ?_⟩) (by assumption) ?_
                    rotate_left
                    · (intro w hSw; (try dsimp only at hSw); go_simp; (try with_reducible rfl))
                    (try simp only [Act.put, List.setIfInBounds_toArray, List.set_cons_zero, List.set_cons_succ])
                    refine wpAnyH_take (i := 4) (v := .slice (some ⟨g, off, none⟩) 4 c) (by simp only [List.getElem?_toArray, List.getElem?_cons_succ, List.getElem?_cons_zero]; rfl) (by kernel_rfl) (by kernel_rfl) (by kernel_rfl) (fun _ _ _ h => h) (Or.inl ⟨by rfl, ?_⟩) (by assumption) ?_
                    · (intro w hSw; (try dsimp only at hSw); go_simp; (try simp [hslh]))
                    (try simp only [Act.put, List.setIfInBounds_toArray, List.set_cons_zero, List.set_cons_succ])
                    refine wpAnyH_ready (rs := [5]) (by kernel_rfl) (by simp) ?_
                    refine AllReadyH.cons (by simp only [List.getElem?_toArray, List.getElem?_cons_succ, List.getElem?_cons_zero]; rfl) (fun K hK => ?_) AllReadyH.nil
                    go_simp
                    refine (HSMa.out _ hHeld.2.1).mono ?_
                    rintro q w4 ⟨rfl, hb4⟩
                    go_simp
                    refine hK.out _ _ ?_ (fun hHeld => ?_)
                    · exact ⟨HCVa.out _ (hHeld.2.1.trans (hb4.mono hHeld.2.1.size)), hHeld.2.1.trans (hb4.mono hHeld.2.1.size), hHeld.2.2.below hb4 (fun k hk => (hHeld.2.2.lt k hk).2)⟩
                    clear hK K
                    (try simp only [Act.put, List.setIfInBounds_toArray, List.set_cons_zero, List.set_cons_succ])
                    refine wpAnyH_ready (rs := [6]) (by kernel_rfl) (by simp) ?_
                    refine AllReadyH.cons (by simp only [List.getElem?_toArray, List.getElem?_cons_succ, List.getElem?_cons_zero]; rfl) (fun K hK => ?_) AllReadyH.nil
                    go_simp
                    refine (refmask_any _ HSLa.out w4).mono ?_
                    rintro q w5 ⟨rfl, hb5⟩
                    rw [ck_eq, ← HCKa.out]
                    go_simp
                    refine hK.out _ _ ?_ (fun hHeld => ?_)
                    · exact ⟨HCVa.out _ (hHeld.2.1.trans (hb5.mono hHeld.2.1.size)), hHeld.2.1.trans (hb5.mono hHeld.2.1.size), hHeld.2.2.below hb5 (fun k hk => (hHeld.2.2.lt k hk).2)⟩
                    clear hK K
                    (try simp only [Act.put, List.setIfInBounds_toArray, List.set_cons_zero, List.set_cons_succ])
                    refine wpAnyH_ready (rs := [7]) (by kernel_rfl) (by simp) ?_
                    refine AllReadyH.cons (by simp only [List.getElem?_toArray, List.getElem?_cons_succ, List.getElem?_cons_zero]; rfl) (fun K hK => ?_) AllReadyH.nil
                    go_simp
                    refine (lit_any Ca hCLa w5).mono ?_
                    rintro q w6 ⟨v6, rfl, hu6, hb6⟩
                    obtain ⟨A6, c6, rfl, _, _, hr6⟩ := hu6.rd
                    go_simp
                    refine hK.out _ _ ?_ (fun hHeld => ?_)
                    · exact ⟨HCVa.out _ (hHeld.2.1.trans (hb6.mono hHeld.2.1.size)), hHeld.2.1.trans (hb6.mono hHeld.2.1.size), hHeld.2.2.below hb6 (fun k hk => (hHeld.2.2.lt k hk).2)⟩
                    clear hK K
                    (try simp only [Act.put, List.setIfInBounds_toArray, List.set_cons_zero, List.set_cons_succ])
                    have hcv6 : (convert 22 9 (.slice A6 4 c6)).run Tryd.prog w6 = .ok (.string TLa) w6 := by
                      have := run_conv (P := Tryd.prog) c6 hr6 22 9 5 Tryd.underlying22 Tryd.underlying5 Tryd.underlying9
                      rw [HTLa.out]; exact this
                    refine wpAnyH_ready (rs := [8]) (by kernel_rfl) (by simp) ?_
                    refine AllReadyH.cons (by simp only [List.getElem?_toArray, List.getElem?_cons_succ, List.getElem?_cons_zero]; rfl) (fun K hK => ?_) AllReadyH.nil
                    go_simp
                    skip
                    refine hK.out _ _ ?_ (fun hHeld => ?_)
                    · exact hHeld
                    clear hK K
                    (try simp only [Act.put, List.setIfInBounds_toArray, List.set_cons_zero, List.set_cons_succ])
                    refine wpAnyH_take (i := 9) (v := .bool false) (by simp only [List.getElem?_toArray, List.getElem?_cons_succ, List.getElem?_cons_zero]; rfl) (by kernel_rfl) (by kernel_rfl) (by kernel_rfl) (fun _ _ _ h => h) (Or.inl ⟨by rfl, ?_⟩) (by assumption) ?_
                    · (intro w hSw; (try dsimp only at hSw); go_simp; (try simp [hTa]))
                    (try simp only [Act.put, List.setIfInBounds_toArray, List.set_cons_zero, List.set_cons_succ])
                    refine wpAnyH_take (i := 10) (v := ?_) (by simp only [List.getElem?_toArray, List.getElem?_cons_succ, List.getElem?_cons_zero]; rfl) (by kernel_rfl) (by kernel_rfl) (by kernel_rfl) (fun _ _ _ h => h) (Or.inl ⟨by rfl, ?_⟩) (by assumption) ?_
                    rotate_left
                    · (intro w hSw; (try dsimp only at hSw); go_simp; (try with_reducible rfl))
                    (try simp only [Act.put, List.setIfInBounds_toArray, List.set_cons_zero, List.set_cons_succ])
                    refine wpAnyH_take (i := 11) (v := ?_) (by simp only [List.getElem?_toArray, List.getElem?_cons_succ, List.getElem?_cons_zero]; rfl) (by kernel_rfl) (by kernel_rfl) (by kernel_rfl) (fun _ _ _ h => h) (Or.inl ⟨by rfl, ?_⟩) (by assumption) ?_
                    rotate_left
                    · (intro w hSw; (try dsimp only at hSw); go_simp; (try with_reducible rfl))
                    (try simp only [Act.put, List.setIfInBounds_toArray, List.set_cons_zero, List.set_cons_succ])
                    refine wpAnyH_take (i := 12) (v := .bool false) (by simp only [List.getElem?_toArray, List.getElem?_cons_succ, List.getElem?_cons_zero]; rfl) (by kernel_rfl) (by kernel_rfl) (by kernel_rfl) (fun _ _ _ h => h) (Or.inl ⟨by rfl, ?_⟩) (by assumption) ?_
                    · (intro w hSw; (try dsimp only at hSw); go_simp; (try simp [hbig]))
                    (try simp only [Act.put, List.setIfInBounds_toArray, List.set_cons_zero, List.set_cons_succ])
                    refine wpAnyH_take (i := 13) (v := ?_) (by simp only [List.getElem?_toArray, List.getElem?_cons_succ, List.getElem?_cons_zero]; rfl) (by kernel_rfl) (by kernel_rfl) (by kernel_rfl) (fun _ _ _ h => h) (Or.inl ⟨by rfl, ?_⟩) (by assumption) ?_
                    rotate_left
                    · (intro w hSw; (try dsimp only at hSw); go_simp; (try with_reducible rfl))
                    (try simp only [Act.put, List.setIfInBounds_toArray, List.set_cons_zero, List.set_cons_succ])
                    refine wpAnyH_done (by kernel_rfl) ?_ _
                    refine NoPanic.normal ?_
                    obtain ⟨_, hfin6, hbuf6⟩ := hHeld
                    by_cases h3 : n - 12 < V
                    · have hEq : nE bs = 8 := by rw [nE, if_neg (by rw [HBL.out]; exact h12), if_neg (by rw [← HV.out]; exact fun h => h.elim (fun h => h h1) h2), if_pos (by rw [HBL.out, ← HV.out]; exact h3)]
                      rw [← HE.out] at hEq
                      subst hEq
                      have h3a : (n : Int) - 12 < (V : Int) := by omega
                      go_wp2_with fail
                      go_ret
                      exact ⟨rfl, hfin6⟩
                    · have h3a : decide ((n : Int) - 12 < (V : Int)) = false := by simp; omega
                      go_upto_region 26 with fail
                      obtain ⟨T8, HT8⟩ : ∃ T, Hid (T = strB ((bs.drop 8).take 4)) := ⟨_, Lib.hid rfl⟩
                      obtain ⟨Cb, HCKb⟩ : ∃ C, Hid (C = ck ((bs.drop 12).take V)) := ⟨_, Lib.hid rfl⟩
                      obtain ⟨TLb, HTLb⟩ : ∃ T, Hid (T = strB (M.leB Cb 4)) := ⟨_, Lib.hid rfl⟩
                      have hCLb : (Cb : Int) < 4294967296 := by rw [HCKb.out]; have := ck_lt ((bs.drop 12).take V); omega
                      have HB12 : Hid (∀ c ∈ (bs.drop 12).take V, c < 256) := Lib.hid (fun c hc => HB.out c (List.mem_of_mem_drop (List.mem_of_mem_take hc)))
                      have HSLb : Hid ((nt (crcR (nt 0) ((bs.drop 12).take V)) : Int) < 4294967296) := Lib.hid (by have := sum_lt _ HB12.out; omega)
                      have hsl8 : ∀ wx : World, (Instr.slice 22 (.slice (some ⟨g, off, none⟩) n c) (some (.int .i64 8)) (some (.int .i64 12)) none).run Tryd.prog wx = .ok (.slice (some ⟨g, off + 8, none⟩) 4 (c - 8)) wx := fun wx => by
                        have := run_slice_lh (P := Tryd.prog) wx 22 5 i0 Tryd.underlying22 hi hz1 (some ⟨g, off, none⟩) n c 8 12 (by omega) (by omega) .i64 .i64 8 12 rfl rfl
                        rw [if_neg (by omega)] at this; exact this
                      have hVn : 12 + V ≤ n := by omega
                      obtain ⟨P, HP⟩ : ∃ P : Option Addr, Hid (P = if c = 12 then some ⟨g, off, none⟩ else (some ⟨g, off, none⟩ : Option Addr).map (·.add 12)) := ⟨_, Lib.hid rfl⟩
                      have hsl12 : ∀ wx : World, (Instr.slice 22 (.slice (some ⟨g, off, none⟩) n c) (some (.int .i64 12)) (some (.int .i64 (12 + (V : Int)))) none).run Tryd.prog wx = .ok (.slice P V (c - 12)) wx := fun wx => by
                        have := run_slice_lh (P := Tryd.prog) wx 22 5 i0 Tryd.underlying22 hi hz1 (some ⟨g, off, none⟩) n c 12 (12 + V) (by omega) (by omega) .i64 .i64 12 (12 + (V : Int)) rfl (by omega)
                        rw [← HP.out, show 12 + V - 12 = V by omega] at this; exact this
                      have hwr : IntKind.i64.wrap (12 + (V : Int)) = 12 + (V : Int) := by rw [IntWalk.i64_in _ (by omega)]
                      have HR12 : Hid (∀ wx : World, Below w.heap.size w wx → Rd wx w.heap.size P V (bys ((bs.drop 12).take V))) := Lib.hid (fun wx hb => by
                        have hm := (hr.below hb).mid 12 (12 + V) c (by omega) hVn hc
                        rw [← HP.out, show 12 + V - 12 = V by omega, ← bys_drop, ← bys_take] at hm
                        exact hm)
                      have HCVb : Hid (∀ wx : World, Below w.heap.size w wx → (convert 22 9 (.slice (some ⟨g, off + 8, none⟩) 4 (c - 8))).run Tryd.prog wx = .ok (.string T8) wx) := Lib.hid (fun wx hb => by
                        have hm := (hr.below hb).mid 8 12 c (by omega) (by omega) hc
                        rw [if_neg (by omega), ← bys_drop, ← bys_take] at hm
                        rw [HT8.out]
                        exact run_conv (P := Tryd.prog) (c - 8) hm 22 9 5 Tryd.underlying22 Tryd.underlying5 Tryd.underlying9)
                      have HSMb : Hid (∀ wx : World, Below w.heap.size w wx → Calls Tryd.prog 15 #[.slice P V (c - 12)] wx fun e w' => e = .returned (.int .u32 ((nt (crcR (nt 0) ((bs.drop 12).take V)) : Nat) : Int)) ∧ Below wx.heap.size wx w') := Lib.hid (fun wx hb => refsum_any P V (c - 12) _ wx ((HR12.out wx hb).up hb.size) HB12.out (by omega))
                      have hS8 : (fun w' => (convert 22 9 (.slice (some ⟨g, off + 8, none⟩) 4 (c - 8))).run Tryd.prog w' = .ok (.string T8) w' ∧ Below w.heap.size w w' ∧ Buf w' w2.heap.size (.slice A3 (nD bs).length c3) (nD bs).length (bys (nD bs))) w6.drew := ⟨HCVb.out _ hfin6.drew, hfin6.drew, hbuf6.drew⟩
                      clear hbuf6
                      by_cases h4 : lv4 (bs.drop 8) = ck ((bs.drop 12).take V)
                      · have hTb : (T8.toList == TLb.toList) = true := by rw [HT8.out, HTLb.out, HCKb.out, four_eq bs 8 _ HB.out (by rw [HBL.out]; omega) (ck_lt _)]; simpa using h4
                        have hEq : nE bs = 0 := by rw [nE, if_neg (by rw [HBL.out]; exact h12), if_neg (by rw [← HV.out]; exact fun h => h.elim (fun h => h h1) h2), if_neg (by rw [HBL.out, ← HV.out]; exact h3), if_neg (by rw [← HV.out]; exact fun h => h h4)]
                        refine wp_region_noPanic ?_
                        refine wp_region_held_drew (S := (fun w' => (convert 22 9 (.slice (some ⟨g, off + 8, none⟩) 4 (c - 8))).run Tryd.prog w' = .ok (.string T8) w' ∧ Below w.heap.size w w' ∧ Buf w' w2.heap.size (.slice A3 (nD bs).length c3) (nD bs).length (bys (nD bs)))) (by kernel_rfl) (hS8) (fun hHeld => ?_)
                        refine wpAnyH_take (i := 0) (v := ?_) (by simp only [List.getElem?_toArray, List.getElem?_cons_succ, List.getElem?_cons_zero]; rfl) (by kernel_rfl) (by kernel_rfl) (by kernel_rfl) (fun _ _ _ h => h) (Or.inl ⟨by rfl, ?_⟩) (by assumption) ?_
                        rotate_left
                        · (intro w hSw; (try dsimp only at hSw); go_simp; (try with_reducible rfl))
                        (try simp only [Act.put, List.setIfInBounds_toArray, List.set_cons_zero, List.set_cons_succ])
                        refine wpAnyH_take (i := 1) (v := .slice (some ⟨g, off + 8, none⟩) 4 (c - 8)) (by simp only [List.getElem?_toArray, List.getElem?_cons_succ, List.getElem?_cons_zero]; rfl) (by kernel_rfl) (by kernel_rfl) (by kernel_rfl) (fun _ _ _ h => h) (Or.inl ⟨by rfl, ?_⟩) (by assumption) ?_
                        · (intro w hSw; (try dsimp only at hSw); go_simp; (try simp [hsl8]))
                        (try simp only [Act.put, List.setIfInBounds_toArray, List.set_cons_zero, List.set_cons_succ])
                        refine wpAnyH_take (i := 2) (v := .string T8) (by simp only [List.getElem?_toArray, List.getElem?_cons_succ, List.getElem?_cons_zero]; rfl) (by kernel_rfl) (by kernel_rfl) (by kernel_rfl) (fun _ _ _ h => h) (Or.inl ⟨by rfl, ?_⟩) (by assumption) ?_
                        · (intro w hSw; (try dsimp only at hSw); go_simp; (try simp))
                        (try simp only [Act.put, List.setIfInBounds_toArray, List.set_cons_zero, List.set_cons_succ])
                        refine wpAnyH_take (i := 3) (v := ?_) (by simp only [List.getElem?_toArray, List.getElem?_cons_succ, List.getElem?_cons_zero]; rfl) (by kernel_rfl) (by kernel_rfl) (by kernel_rfl) (fun _ _ _ h => h) (Or.inl ⟨by rfl, ?_⟩) (by assumption) ?_
                        rotate_left
                        · (intro w hSw; (try dsimp only at hSw); go_simp; (try with_reducible rfl))
                        (try simp only [Act.put, List.setIfInBounds_toArray, List.set_cons_zero, List.set_cons_succ])
                        refine wpAnyH_take (i := 4) (v := ?_) (by simp only [List.getElem?_toArray, List.getElem?_cons_succ, List.getElem?_cons_zero]; rfl) (by kernel_rfl) (by kernel_rfl) (by kernel_rfl) (fun _ _ _ h => h) (Or.inl ⟨by rfl, ?_⟩) (by assumption) ?_
                        rotate_left
                        · (intro w hSw; (try dsimp only at hSw); go_simp; (try with_reducible rfl))
                        (try simp only [Act.put, List.setIfInBounds_toArray, List.set_cons_zero, List.set_cons_succ])
                        refine wpAnyH_take (i := 5) (v := .int .i64 (12 + (V : Int))) (by simp only [List.getElem?_toArray, List.getElem?_cons_succ, List.getElem?_cons_zero]; rfl) (by kernel_rfl) (by kernel_rfl) (by kernel_rfl) (fun _ _ _ h => h) (Or.inl ⟨by rfl, ?_⟩) (by assumption) ?_
                        · (intro w hSw; (try dsimp only at hSw); go_simp; (try simp [hwr]))
                        (try simp only [Act.put, List.setIfInBounds_toArray, List.set_cons_zero, List.set_cons_succ])
                        refine wpAnyH_take (i := 6) (v := .slice P V (c - 12)) (by simp only [List.getElem?_toArray, List.getElem?_cons_succ, List.getElem?_cons_zero]; rfl) (by kernel_rfl) (by kernel_rfl) (by kernel_rfl) (fun _ _ _ h => h) (Or.inl ⟨by rfl, ?_⟩) (by assumption) ?_
                        · (intro w hSw; (try dsimp only at hSw); go_simp; (try simp [hsl12]))
                        (try simp only [Act.put, List.setIfInBounds_toArray, List.set_cons_zero, List.set_cons_succ])
                        refine wpAnyH_ready (rs := [7]) (by kernel_rfl) (by simp) ?_
                        refine AllReadyH.cons (by simp only [List.getElem?_toArray, List.getElem?_cons_succ, List.getElem?_cons_zero]; rfl) (fun K hK => ?_) AllReadyH.nil
                        go_simp
                        refine (HSMb.out _ hHeld.2.1).mono ?_
                        rintro q w14 ⟨rfl, hb14⟩
                        go_simp
                        refine hK.out _ _ ?_ (fun hHeld => ?_)
                        · exact ⟨HCVb.out _ (hHeld.2.1.trans (hb14.mono hHeld.2.1.size)), hHeld.2.1.trans (hb14.mono hHeld.2.1.size), hHeld.2.2.below hb14 (fun k hk => (hHeld.2.2.lt k hk).2)⟩
                        clear hK K
                        (try simp only [Act.put, List.setIfInBounds_toArray, List.set_cons_zero, List.set_cons_succ])
                        refine wpAnyH_ready (rs := [8]) (by kernel_rfl) (by simp) ?_
                        refine AllReadyH.cons (by simp only [List.getElem?_toArray, List.getElem?_cons_succ, List.getElem?_cons_zero]; rfl) (fun K hK => ?_) AllReadyH.nil
                        go_simp
                        refine (refmask_any _ HSLb.out w14).mono ?_
                        rintro q w15 ⟨rfl, hb15⟩
                        rw [ck_eq, ← HCKb.out]
                        go_simp
                        refine hK.out _ _ ?_ (fun hHeld => ?_)
                        · exact ⟨HCVb.out _ (hHeld.2.1.trans (hb15.mono hHeld.2.1.size)), hHeld.2.1.trans (hb15.mono hHeld.2.1.size), hHeld.2.2.below hb15 (fun k hk => (hHeld.2.2.lt k hk).2)⟩
                        clear hK K
                        (try simp only [Act.put, List.setIfInBounds_toArray, List.set_cons_zero, List.set_cons_succ])
                        refine wpAnyH_ready (rs := [9]) (by kernel_rfl) (by simp) ?_
                        refine AllReadyH.cons (by simp only [List.getElem?_toArray, List.getElem?_cons_succ, List.getElem?_cons_zero]; rfl) (fun K hK => ?_) AllReadyH.nil
                        go_simp
                        refine (lit_any Cb hCLb w15).mono ?_
                        rintro q w16 ⟨v16, rfl, hu16, hb16⟩
                        obtain ⟨A16, c16, rfl, _, _, hr16⟩ := hu16.rd
                        go_simp
                        refine hK.out _ _ ?_ (fun hHeld => ?_)
                        · exact ⟨HCVb.out _ (hHeld.2.1.trans (hb16.mono hHeld.2.1.size)), hHeld.2.1.trans (hb16.mono hHeld.2.1.size), hHeld.2.2.below hb16 (fun k hk => (hHeld.2.2.lt k hk).2)⟩
                        clear hK K
                        (try simp only [Act.put, List.setIfInBounds_toArray, List.set_cons_zero, List.set_cons_succ])
                        have hcv16 : (convert 22 9 (.slice A16 4 c16)).run Tryd.prog w16 = .ok (.string TLb) w16 := by
                          have := run_conv (P := Tryd.prog) c16 hr16 22 9 5 Tryd.underlying22 Tryd.underlying5 Tryd.underlying9
                          rw [HTLb.out]; exact this
                        refine wpAnyH_ready (rs := [10]) (by kernel_rfl) (by simp) ?_
                        refine AllReadyH.cons (by simp only [List.getElem?_toArray, List.getElem?_cons_succ, List.getElem?_cons_zero]; rfl) (fun K hK => ?_) AllReadyH.nil
                        go_simp
                        skip
                        refine hK.out _ _ ?_ (fun hHeld => ?_)
                        · exact hHeld
                        clear hK K
                        (try simp only [Act.put, List.setIfInBounds_toArray, List.set_cons_zero, List.set_cons_succ])
                        refine wpAnyH_take (i := 11) (v := .bool false) (by simp only [List.getElem?_toArray, List.getElem?_cons_succ, List.getElem?_cons_zero]; rfl) (by kernel_rfl) (by kernel_rfl) (by kernel_rfl) (fun _ _ _ h => h) (Or.inl ⟨by rfl, ?_⟩) (by assumption) ?_
                        · (intro w hSw; (try dsimp only at hSw); go_simp; (try simp [hTb]))
                        (try simp only [Act.put, List.setIfInBounds_toArray, List.set_cons_zero, List.set_cons_succ])
                        refine wpAnyH_done (by kernel_rfl) ?_ _
                        refine NoPanic.normal ?_
                        obtain ⟨_, hfin16, hbuf16⟩ := hHeld
                        rw [← HE.out] at hEq
                        subst hEq
                        try (exfalso; revert hp1; simp; done)
                        all_goals
                          have hND : nD bs = (bs.drop 12).take V := by rw [nD, if_pos HE.out.symm, HV.out]
                          have hNN : NN = 12 + V := by rw [HNN.out, nN, if_pos HE.out.symm, HV.out]
                          have hDL : DL = V := by rw [HDL.out, hND, List.length_take, List.length_drop, HBL.out]; omega
                          subst hNN
                          subst hDL
                          obtain ⟨_, _, e16, _, hrD⟩ := hbuf16.slice
                          injection e16 with e1 e2 e3
                          subst e1; subst e3
                          rw [← HDL.out, hND] at hrD
                          have cv1' := run_conv (P := Tryd.prog) c3 hrD.drew 22 9 5 Tryd.underlying22 Tryd.underlying5 Tryd.underlying9
                          have cv2' := run_conv (P := Tryd.prog) (c - 12) (HR12.out _ hfin16.drew) 22 9 5 Tryd.underlying22 Tryd.underlying5 Tryd.underlying9
                          have hsame := strB_same ((bs.drop 12).take DL)
                          have hcast : ((12 + DL : Nat) : Int) = 12 + (DL : Int) := by omega
                          generalize strB ((bs.drop 12).take DL) = TD at cv1' cv2' hsame
                          clear hrD hND
                          have hS28 : (fun w' => (convert 22 9 (.slice A3 DL c3)).run Tryd.prog w' = .ok (.string TD) w' ∧ (convert 22 9 (.slice P DL (c - 12))).run Tryd.prog w' = .ok (.string TD) w' ∧ Below w.heap.size w w') w16.drew := ⟨cv1', cv2', hfin16.drew⟩
                          go_wp2_with fail
                          refine wp_region_noPanic ?_
                          refine wp_region_held_drew (S := (fun w' => (convert 22 9 (.slice A3 DL c3)).run Tryd.prog w' = .ok (.string TD) w' ∧ (convert 22 9 (.slice P DL (c - 12))).run Tryd.prog w' = .ok (.string TD) w' ∧ Below w.heap.size w w')) (by kernel_rfl) (hS28) (fun hHeld => ?_)
                          refine wpAnyH_take (i := 0) (v := ?_) (by simp only [List.getElem?_toArray, List.getElem?_cons_succ, List.getElem?_cons_zero]; rfl) (by kernel_rfl) (by kernel_rfl) (by kernel_rfl) (fun _ _ _ h => h) (Or.inl ⟨by rfl, ?_⟩) (by assumption) ?_
                          rotate_left
                          · (intro w hSw; (try dsimp only at hSw); go_simp; (try with_reducible rfl))
                          (try simp only [Act.put, List.setIfInBounds_toArray, List.set_cons_zero, List.set_cons_succ])
                          refine wpAnyH_take (i := 1) (v := .bool true) (by simp only [List.getElem?_toArray, List.getElem?_cons_succ, List.getElem?_cons_zero]; rfl) (by kernel_rfl) (by kernel_rfl) (by kernel_rfl) (fun _ _ _ h => h) (Or.inl ⟨by rfl, ?_⟩) (by assumption) ?_
                          · (intro w hSw; (try dsimp only at hSw); go_simp; (try simp))
                          (try simp only [Act.put, List.setIfInBounds_toArray, List.set_cons_zero, List.set_cons_succ])
                          refine wpAnyH_take (i := 2) (v := ?_) (by simp only [List.getElem?_toArray, List.getElem?_cons_succ, List.getElem?_cons_zero]; rfl) (by kernel_rfl) (by kernel_rfl) (by kernel_rfl) (fun _ _ _ h => h) (Or.inl ⟨by rfl, ?_⟩) (by assumption) ?_
                          rotate_left
                          · (intro w hSw; (try dsimp only at hSw); go_simp; (try with_reducible rfl))
                          (try simp only [Act.put, List.setIfInBounds_toArray, List.set_cons_zero, List.set_cons_succ])
                          refine wpAnyH_take (i := 3) (v := ?_) (by simp only [List.getElem?_toArray, List.getElem?_cons_succ, List.getElem?_cons_zero]; rfl) (by kernel_rfl) (by kernel_rfl) (by kernel_rfl) (fun _ _ _ h => h) (Or.inl ⟨by rfl, ?_⟩) (by assumption) ?_
                          rotate_left
                          · (intro w hSw; (try dsimp only at hSw); go_simp; (try with_reducible rfl))
                          (try simp only [Act.put, List.setIfInBounds_toArray, List.set_cons_zero, List.set_cons_succ])
                          refine wpAnyH_take (i := 4) (v := ?_) (by simp only [List.getElem?_toArray, List.getElem?_cons_succ, List.getElem?_cons_zero]; rfl) (by kernel_rfl) (by kernel_rfl) (by kernel_rfl) (fun _ _ _ h => h) (Or.inl ⟨by rfl, ?_⟩) (by assumption) ?_
                          rotate_left
                          · (intro w hSw; (try dsimp only at hSw); go_simp; (try with_reducible rfl))
                          (try simp only [Act.put, List.setIfInBounds_toArray, List.set_cons_zero, List.set_cons_succ])
                          refine wpAnyH_take (i := 5) (v := .int .i64 (12 + (DL : Int))) (by simp only [List.getElem?_toArray, List.getElem?_cons_succ, List.getElem?_cons_zero]; rfl) (by kernel_rfl) (by kernel_rfl) (by kernel_rfl) (fun _ _ _ h => h) (Or.inl ⟨by rfl, ?_⟩) (by assumption) ?_
                          · (intro w hSw; (try dsimp only at hSw); go_simp; (try simp [hwr]))
                          (try simp only [Act.put, List.setIfInBounds_toArray, List.set_cons_zero, List.set_cons_succ])
                          refine wpAnyH_take (i := 6) (v := .bool true) (by simp only [List.getElem?_toArray, List.getElem?_cons_succ, List.getElem?_cons_zero]; rfl) (by kernel_rfl) (by kernel_rfl) (by kernel_rfl) (fun _ _ _ h => h) (Or.inl ⟨by rfl, ?_⟩) (by assumption) ?_
                          · (intro w hSw; (try dsimp only at hSw); go_simp; (try simp [hcast]))
                          (try simp only [Act.put, List.setIfInBounds_toArray, List.set_cons_zero, List.set_cons_succ])
                          refine wpAnyH_take (i := 7) (v := ?_) (by simp only [List.getElem?_toArray, List.getElem?_cons_succ, List.getElem?_cons_zero]; rfl) (by kernel_rfl) (by kernel_rfl) (by kernel_rfl) (fun _ _ _ h => h) (Or.inl ⟨by rfl, ?_⟩) (by assumption) ?_
                          rotate_left
                          · (intro w hSw; (try dsimp only at hSw); go_simp; (try with_reducible rfl))
                          (try simp only [Act.put, List.setIfInBounds_toArray, List.set_cons_zero, List.set_cons_succ])
                          refine wpAnyH_take (i := 8) (v := ?_) (by simp only [List.getElem?_toArray, List.getElem?_cons_succ, List.getElem?_cons_zero]; rfl) (by kernel_rfl) (by kernel_rfl) (by kernel_rfl) (fun _ _ _ h => h) (Or.inl ⟨by rfl, ?_⟩) (by assumption) ?_
                          rotate_left
                          · (intro w hSw; (try dsimp only at hSw); go_simp; (try with_reducible rfl))
                          (try simp only [Act.put, List.setIfInBounds_toArray, List.set_cons_zero, List.set_cons_succ])
                          refine wpAnyH_take (i := 9) (v := ?_) (by simp only [List.getElem?_toArray, List.getElem?_cons_succ, List.getElem?_cons_zero]; rfl) (by kernel_rfl) (by kernel_rfl) (by kernel_rfl) (fun _ _ _ h => h) (Or.inl ⟨by rfl, ?_⟩) (by assumption) ?_
                          rotate_left
                          · (intro w hSw; (try dsimp only at hSw); go_simp; (try with_reducible rfl))
                          (try simp only [Act.put, List.setIfInBounds_toArray, List.set_cons_zero, List.set_cons_succ])
                          refine wpAnyH_take (i := 10) (v := .string TD) (by simp only [List.getElem?_toArray, List.getElem?_cons_succ, List.getElem?_cons_zero]; rfl) (by kernel_rfl) (by kernel_rfl) (by kernel_rfl) (fun _ _ _ h => h) (Or.inl ⟨by rfl, ?_⟩) (by assumption) ?_
                          · (intro w hSw; (try dsimp only at hSw); go_simp; (try simp))
                          (try simp only [Act.put, List.setIfInBounds_toArray, List.set_cons_zero, List.set_cons_succ])
                          refine wpAnyH_take (i := 11) (v := ?_) (by simp only [List.getElem?_toArray, List.getElem?_cons_succ, List.getElem?_cons_zero]; rfl) (by kernel_rfl) (by kernel_rfl) (by kernel_rfl) (fun _ _ _ h => h) (Or.inl ⟨by rfl, ?_⟩) (by assumption) ?_
                          rotate_left
                          · (intro w hSw; (try dsimp only at hSw); go_simp; (try with_reducible rfl))
                          (try simp only [Act.put, List.setIfInBounds_toArray, List.set_cons_zero, List.set_cons_succ])
                          refine wpAnyH_take (i := 12) (v := ?_) (by simp only [List.getElem?_toArray, List.getElem?_cons_succ, List.getElem?_cons_zero]; rfl) (by kernel_rfl) (by kernel_rfl) (by kernel_rfl) (fun _ _ _ h => h) (Or.inl ⟨by rfl, ?_⟩) (by assumption) ?_
                          rotate_left
                          · (intro w hSw; (try dsimp only at hSw); go_simp; (try with_reducible rfl))
                          (try simp only [Act.put, List.setIfInBounds_toArray, List.set_cons_zero, List.set_cons_succ])
                          refine wpAnyH_take (i := 13) (v := .int .i64 (12 + (DL : Int))) (by simp only [List.getElem?_toArray, List.getElem?_cons_succ, List.getElem?_cons_zero]; rfl) (by kernel_rfl) (by kernel_rfl) (by kernel_rfl) (fun _ _ _ h => h) (Or.inl ⟨by rfl, ?_⟩) (by assumption) ?_
                          · (intro w hSw; (try dsimp only at hSw); go_simp; (try simp [hwr]))
                          (try simp only [Act.put, List.setIfInBounds_toArray, List.set_cons_zero, List.set_cons_succ])
                          refine wpAnyH_take (i := 14) (v := .slice P DL (c - 12)) (by simp only [List.getElem?_toArray, List.getElem?_cons_succ, List.getElem?_cons_zero]; rfl) (by kernel_rfl) (by kernel_rfl) (by kernel_rfl) (fun _ _ _ h => h) (Or.inl ⟨by rfl, ?_⟩) (by assumption) ?_
                          · (intro w hSw; (try dsimp only at hSw); go_simp; (try simp [hsl12]))
                          (try simp only [Act.put, List.setIfInBounds_toArray, List.set_cons_zero, List.set_cons_succ])
                          refine wpAnyH_take (i := 15) (v := .string TD) (by simp only [List.getElem?_toArray, List.getElem?_cons_succ, List.getElem?_cons_zero]; rfl) (by kernel_rfl) (by kernel_rfl) (by kernel_rfl) (fun _ _ _ h => h) (Or.inl ⟨by rfl, ?_⟩) (by assumption) ?_
                          · (intro w hSw; (try dsimp only at hSw); go_simp; (try simp))
                          (try simp only [Act.put, List.setIfInBounds_toArray, List.set_cons_zero, List.set_cons_succ])
                          refine wpAnyH_take (i := 16) (v := .bool true) (by simp only [List.getElem?_toArray, List.getElem?_cons_succ, List.getElem?_cons_zero]; rfl) (by kernel_rfl) (by kernel_rfl) (by kernel_rfl) (fun _ _ _ h => h) (Or.inl ⟨by rfl, ?_⟩) (by assumption) ?_
                          · (intro w hSw; (try dsimp only at hSw); go_simp; (try simp))
                          (try simp only [Act.put, List.setIfInBounds_toArray, List.set_cons_zero, List.set_cons_succ])
                          refine wpAnyH_take (i := 17) (v := ?_) (by simp only [List.getElem?_toArray, List.getElem?_cons_succ, List.getElem?_cons_zero]; rfl) (by kernel_rfl) (by kernel_rfl) (by kernel_rfl) (fun _ _ _ h => h) (Or.inl ⟨by rfl, ?_⟩) (by assumption) ?_
                          rotate_left
                          · (intro w hSw; (try dsimp only at hSw); go_simp; (try with_reducible rfl))
                          (try simp only [Act.put, List.setIfInBounds_toArray, List.set_cons_zero, List.set_cons_succ])
                          refine wpAnyH_take (i := 18) (v := ?_) (by simp only [List.getElem?_toArray, List.getElem?_cons_succ, List.getElem?_cons_zero]; rfl) (by kernel_rfl) (by kernel_rfl) (by kernel_rfl) (fun _ _ _ h => h) (Or.inl ⟨by rfl, ?_⟩) (by assumption) ?_
                          rotate_left
                          · (intro w hSw; (try dsimp only at hSw); go_simp; (try with_reducible rfl))
                          (try simp only [Act.put, List.setIfInBounds_toArray, List.set_cons_zero, List.set_cons_succ])
                          refine wpAnyH_done (by kernel_rfl) ?_ _
                          refine NoPanic.normal ?_
                          obtain ⟨_, _, hfin16⟩ := hHeld
                          go_wp2_with fail
                          go_ret
                          exact ⟨rfl, hfin16⟩
                      · have hTb : (T8.toList == TLb.toList) = false := by rw [HT8.out, HTLb.out, HCKb.out, four_eq bs 8 _ HB.out (by rw [HBL.out]; omega) (ck_lt _)]; simpa using h4
                        have hEq : nE bs = 12 := by rw [nE, if_neg (by rw [HBL.out]; exact h12), if_neg (by rw [← HV.out]; exact fun h => h.elim (fun h => h h1) h2), if_neg (by rw [HBL.out, ← HV.out]; exact h3), if_pos (by rw [← HV.out]; exact h4)]
                        rw [← HE.out] at hEq
                        subst hEq
                        refine wp_region_noPanic ?_
                        refine wp_region_held_drew (S := (fun w' => (convert 22 9 (.slice (some ⟨g, off + 8, none⟩) 4 (c - 8))).run Tryd.prog w' = .ok (.string T8) w' ∧ Below w.heap.size w w' ∧ Buf w' w2.heap.size (.slice A3 (nD bs).length c3) (nD bs).length (bys (nD bs)))) (by kernel_rfl) (hS8) (fun hHeld => ?_)
                        refine wpAnyH_take (i := 0) (v := ?_) (by simp only [List.getElem?_toArray, List.getElem?_cons_succ, List.getElem?_cons_zero]; rfl) (by kernel_rfl) (by kernel_rfl) (by kernel_rfl) (fun _ _ _ h => h) (Or.inl ⟨by rfl, ?_⟩) (by assumption) ?_
                        rotate_left
                        · (intro w hSw; (try dsimp only at hSw); go_simp; (try with_reducible rfl))
                        (try simp only [Act.put, List.setIfInBounds_toArray, List.set_cons_zero, List.set_cons_succ])
                        refine wpAnyH_take (i := 1) (v := .slice (some ⟨g, off + 8, none⟩) 4 (c - 8)) (by simp only [List.getElem?_toArray, List.getElem?_cons_succ, List.getElem?_cons_zero]; rfl) (by kernel_rfl) (by kernel_rfl) (by kernel_rfl) (fun _ _ _ h => h) (Or.inl ⟨by rfl, ?_⟩) (by assumption) ?_
                        · (intro w hSw; (try dsimp only at hSw); go_simp; (try simp [hsl8]))
                        (try simp only [Act.put, List.setIfInBounds_toArray, List.set_cons_zero, List.set_cons_succ])
                        refine wpAnyH_take (i := 2) (v := .string T8) (by simp only [List.getElem?_toArray, List.getElem?_cons_succ, List.getElem?_cons_zero]; rfl) (by kernel_rfl) (by kernel_rfl) (by kernel_rfl) (fun _ _ _ h => h) (Or.inl ⟨by rfl, ?_⟩) (by assumption) ?_
                        · (intro w hSw; (try dsimp only at hSw); go_simp; (try simp))
                        (try simp only [Act.put, List.setIfInBounds_toArray, List.set_cons_zero, List.set_cons_succ])
                        refine wpAnyH_take (i := 3) (v := ?_) (by simp only [List.getElem?_toArray, List.getElem?_cons_succ, List.getElem?_cons_zero]; rfl) (by kernel_rfl) (by kernel_rfl) (by kernel_rfl) (fun _ _ _ h => h) (Or.inl ⟨by rfl, ?_⟩) (by assumption) ?_
                        rotate_left
                        · (intro w hSw; (try dsimp only at hSw); go_simp; (try with_reducible rfl))
                        (try simp only [Act.put, List.setIfInBounds_toArray, List.set_cons_zero, List.set_cons_succ])
                        refine wpAnyH_take (i := 4) (v := ?_) (by simp only [List.getElem?_toArray, List.getElem?_cons_succ, List.getElem?_cons_zero]; rfl) (by kernel_rfl) (by kernel_rfl) (by kernel_rfl) (fun _ _ _ h => h) (Or.inl ⟨by rfl, ?_⟩) (by assumption) ?_
                        rotate_left
                        · (intro w hSw; (try dsimp only at hSw); go_simp; (try with_reducible rfl))
                        (try simp only [Act.put, List.setIfInBounds_toArray, List.set_cons_zero, List.set_cons_succ])
                        refine wpAnyH_take (i := 5) (v := .int .i64 (12 + (V : Int))) (by simp only [List.getElem?_toArray, List.getElem?_cons_succ, List.getElem?_cons_zero]; rfl) (by kernel_rfl) (by kernel_rfl) (by kernel_rfl) (fun _ _ _ h => h) (Or.inl ⟨by rfl, ?_⟩) (by assumption) ?_
                        · (intro w hSw; (try dsimp only at hSw); go_simp; (try simp [hwr]))
                        (try simp only [Act.put, List.setIfInBounds_toArray, List.set_cons_zero, List.set_cons_succ])
                        refine wpAnyH_take (i := 6) (v := .slice P V (c - 12)) (by simp only [List.getElem?_toArray, List.getElem?_cons_succ, List.getElem?_cons_zero]; rfl) (by kernel_rfl) (by kernel_rfl) (by kernel_rfl) (fun _ _ _ h => h) (Or.inl ⟨by rfl, ?_⟩) (by assumption) ?_
                        · (intro w hSw; (try dsimp only at hSw); go_simp; (try simp [hsl12]))
                        (try simp only [Act.put, List.setIfInBounds_toArray, List.set_cons_zero, List.set_cons_succ])
                        refine wpAnyH_ready (rs := [7]) (by kernel_rfl) (by simp) ?_
                        refine AllReadyH.cons (by simp only [List.getElem?_toArray, List.getElem?_cons_succ, List.getElem?_cons_zero]; rfl) (fun K hK => ?_) AllReadyH.nil
                        go_simp
                        refine (HSMb.out _ hHeld.2.1).mono ?_
                        rintro q w14 ⟨rfl, hb14⟩
                        go_simp
                        refine hK.out _ _ ?_ (fun hHeld => ?_)
                        · exact ⟨HCVb.out _ (hHeld.2.1.trans (hb14.mono hHeld.2.1.size)), hHeld.2.1.trans (hb14.mono hHeld.2.1.size), hHeld.2.2.below hb14 (fun k hk => (hHeld.2.2.lt k hk).2)⟩
                        clear hK K
                        (try simp only [Act.put, List.setIfInBounds_toArray, List.set_cons_zero, List.set_cons_succ])
                        refine wpAnyH_ready (rs := [8]) (by kernel_rfl) (by simp) ?_
                        refine AllReadyH.cons (by simp only [List.getElem?_toArray, List.getElem?_cons_succ, List.getElem?_cons_zero]; rfl) (fun K hK => ?_) AllReadyH.nil
                        go_simp
                        refine (refmask_any _ HSLb.out w14).mono ?_
                        rintro q w15 ⟨rfl, hb15⟩
                        rw [ck_eq, ← HCKb.out]
                        go_simp
                        refine hK.out _ _ ?_ (fun hHeld => ?_)
                        · exact ⟨HCVb.out _ (hHeld.2.1.trans (hb15.mono hHeld.2.1.size)), hHeld.2.1.trans (hb15.mono hHeld.2.1.size), hHeld.2.2.below hb15 (fun k hk => (hHeld.2.2.lt k hk).2)⟩
                        clear hK K
                        (try simp only [Act.put, List.setIfInBounds_toArray, List.set_cons_zero, List.set_cons_succ])
                        refine wpAnyH_ready (rs := [9]) (by kernel_rfl) (by simp) ?_
                        refine AllReadyH.cons (by simp only [List.getElem?_toArray, List.getElem?_cons_succ, List.getElem?_cons_zero]; rfl) (fun K hK => ?_) AllReadyH.nil
                        go_simp
                        refine (lit_any Cb hCLb w15).mono ?_
                        rintro q w16 ⟨v16, rfl, hu16, hb16⟩
                        obtain ⟨A16, c16, rfl, _, _, hr16⟩ := hu16.rd
                        go_simp
                        refine hK.out _ _ ?_ (fun hHeld => ?_)
                        · exact ⟨HCVb.out _ (hHeld.2.1.trans (hb16.mono hHeld.2.1.size)), hHeld.2.1.trans (hb16.mono hHeld.2.1.size), hHeld.2.2.below hb16 (fun k hk => (hHeld.2.2.lt k hk).2)⟩
                        clear hK K
                        (try simp only [Act.put, List.setIfInBounds_toArray, List.set_cons_zero, List.set_cons_succ])
                        have hcv16 : (convert 22 9 (.slice A16 4 c16)).run Tryd.prog w16 = .ok (.string TLb) w16 := by
                          have := run_conv (P := Tryd.prog) c16 hr16 22 9 5 Tryd.underlying22 Tryd.underlying5 Tryd.underlying9
                          rw [HTLb.out]; exact this
                        refine wpAnyH_ready (rs := [10]) (by kernel_rfl) (by simp) ?_
                        refine AllReadyH.cons (by simp only [List.getElem?_toArray, List.getElem?_cons_succ, List.getElem?_cons_zero]; rfl) (fun K hK => ?_) AllReadyH.nil
                        go_simp
                        skip
                        refine hK.out _ _ ?_ (fun hHeld => ?_)
                        · exact hHeld
                        clear hK K
                        (try simp only [Act.put, List.setIfInBounds_toArray, List.set_cons_zero, List.set_cons_succ])
                        refine wpAnyH_take (i := 11) (v := .bool true) (by simp only [List.getElem?_toArray, List.getElem?_cons_succ, List.getElem?_cons_zero]; rfl) (by kernel_rfl) (by kernel_rfl) (by kernel_rfl) (fun _ _ _ h => h) (Or.inl ⟨by rfl, ?_⟩) (by assumption) ?_
                        · (intro w hSw; (try dsimp only at hSw); go_simp; (try simp [hTb]))
                        (try simp only [Act.put, List.setIfInBounds_toArray, List.set_cons_zero, List.set_cons_succ])
                        refine wpAnyH_done (by kernel_rfl) ?_ _
                        refine NoPanic.normal ?_
                        obtain ⟨_, hfin16, hbuf16⟩ := hHeld
                        go_wp2_with fail
                        go_ret
                        exact ⟨rfl, hfin16⟩
                · have hTa : (T4.toList == TLa.toList) = false := by rw [HT4.out, HTLa.out, HCKa.out, four_eq bs 4 _ HB.out (by rw [HBL.out]; omega) (ck_lt _)]; simpa using h1
                  have hEq : nE bs = 12 := by rw [nE, if_neg (by rw [HBL.out]; exact h12), if_pos (Or.inl h1)]
                  rw [← HE.out] at hEq
                  subst hEq
                  refine wp_region_noPanic ?_
                  refine wp_region_held_drew (S := (fun w' => (convert 22 9 (.slice (some ⟨g, off + 4, none⟩) 4 (c - 4))).run Tryd.prog w' = .ok (.string T4) w' ∧ Below w.heap.size w w' ∧ Buf w' w2.heap.size (.slice A3 (nD bs).length c3) (nD bs).length (bys (nD bs)))) (by kernel_rfl) (hS4) (fun hHeld => ?_)
                  refine wpAnyH_take (i := 0) (v := ?_) (by simp only [List.getElem?_toArray, List.getElem?_cons_succ, List.getElem?_cons_zero]; rfl) (by kernel_rfl) (by kernel_rfl) (by kernel_rfl) (fun _ _ _ h => h) (Or.inl ⟨by rfl, ?_⟩) (by assumption) ?_
                  rotate_left
                  · (intro w hSw; (try dsimp only at hSw); go_simp; (try with_reducible rfl))
                  (try simp only [Act.put, List.setIfInBounds_toArray, List.set_cons_zero, List.set_cons_succ])
                  refine wpAnyH_take (i := 1) (v := .slice (some ⟨g, off + 4, none⟩) 4 (c - 4)) (by simp only [List.getElem?_toArray, List.getElem?_cons_succ, List.getElem?_cons_zero]; rfl) (by kernel_rfl) (by kernel_rfl) (by kernel_rfl) (fun _ _ _ h => h) (Or.inl ⟨by rfl, ?_⟩) (by assumption) ?_
                  · (intro w hSw; (try dsimp only at hSw); go_simp; (try simp [hsl4]))
                  (try simp only [Act.put, List.setIfInBounds_toArray, List.set_cons_zero, List.set_cons_succ])
                  refine wpAnyH_take (i := 2) (v := .string T4) (by simp only [List.getElem?_toArray, List.getElem?_cons_succ, List.getElem?_cons_zero]; rfl) (by kernel_rfl) (by kernel_rfl) (by kernel_rfl) (fun _ _ _ h => h) (Or.inl ⟨by rfl, ?_⟩) (by assumption) ?_
                  · (intro w hSw; (try dsimp only at hSw); go_simp; (try simp))
                  (try simp only [Act.put, List.setIfInBounds_toArray, List.set_cons_zero, List.set_cons_succ])
                  refine wpAnyH_take (i := 3) (v := ?_) (by simp only [List.getElem?_toArray, List.getElem?_cons_succ, List.getElem?_cons_zero]; rfl) (by kernel_rfl) (by kernel_rfl) (by kernel_rfl) (fun _ _ _ h => h) (Or.inl ⟨by rfl, ?_⟩) (by assumption) ?_
                  rotate_left
                  · (intro w hSw; (try dsimp only at hSw); go_simp; (try with_reducible rfl))
                  (try simp only [Act.put, List.setIfInBounds_toArray, List.set_cons_zero, List.set_cons_succ])
                  refine wpAnyH_take (i := 4) (v := .slice (some ⟨g, off, none⟩) 4 c) (by simp only [List.getElem?_toArray, List.getElem?_cons_succ, List.getElem?_cons_zero]; rfl) (by kernel_rfl) (by kernel_rfl) (by kernel_rfl) (fun _ _ _ h => h) (Or.inl ⟨by rfl, ?_⟩) (by assumption) ?_
                  · (intro w hSw; (try dsimp only at hSw); go_simp; (try simp [hslh]))
                  (try simp only [Act.put, List.setIfInBounds_toArray, List.set_cons_zero, List.set_cons_succ])
                  refine wpAnyH_ready (rs := [5]) (by kernel_rfl) (by simp) ?_
                  refine AllReadyH.cons (by simp only [List.getElem?_toArray, List.getElem?_cons_succ, List.getElem?_cons_zero]; rfl) (fun K hK => ?_) AllReadyH.nil
                  go_simp
                  refine (HSMa.out _ hHeld.2.1).mono ?_
                  rintro q w4 ⟨rfl, hb4⟩
                  go_simp
                  refine hK.out _ _ ?_ (fun hHeld => ?_)
                  · exact ⟨HCVa.out _ (hHeld.2.1.trans (hb4.mono hHeld.2.1.size)), hHeld.2.1.trans (hb4.mono hHeld.2.1.size), hHeld.2.2.below hb4 (fun k hk => (hHeld.2.2.lt k hk).2)⟩
                  clear hK K
                  (try simp only [Act.put, List.setIfInBounds_toArray, List.set_cons_zero, List.set_cons_succ])
                  refine wpAnyH_ready (rs := [6]) (by kernel_rfl) (by simp) ?_
                  refine AllReadyH.cons (by simp only [List.getElem?_toArray, List.getElem?_cons_succ, List.getElem?_cons_zero]; rfl) (fun K hK => ?_) AllReadyH.nil
                  go_simp
                  refine (refmask_any _ HSLa.out w4).mono ?_
                  rintro q w5 ⟨rfl, hb5⟩
                  rw [ck_eq, ← HCKa.out]
                  go_simp
                  refine hK.out _ _ ?_ (fun hHeld => ?_)
                  · exact ⟨HCVa.out _ (hHeld.2.1.trans (hb5.mono hHeld.2.1.size)), hHeld.2.1.trans (hb5.mono hHeld.2.1.size), hHeld.2.2.below hb5 (fun k hk => (hHeld.2.2.lt k hk).2)⟩
                  clear hK K
                  (try simp only [Act.put, List.setIfInBounds_toArray, List.set_cons_zero, List.set_cons_succ])
                  refine wpAnyH_ready (rs := [7]) (by kernel_rfl) (by simp) ?_
                  refine AllReadyH.cons (by simp only [List.getElem?_toArray, List.getElem?_cons_succ, List.getElem?_cons_zero]; rfl) (fun K hK => ?_) AllReadyH.nil
                  go_simp
                  refine (lit_any Ca hCLa w5).mono ?_
                  rintro q w6 ⟨v6, rfl, hu6, hb6⟩
                  obtain ⟨A6, c6, rfl, _, _, hr6⟩ := hu6.rd
                  go_simp
                  refine hK.out _ _ ?_ (fun hHeld => ?_)
                  · exact ⟨HCVa.out _ (hHeld.2.1.trans (hb6.mono hHeld.2.1.size)), hHeld.2.1.trans (hb6.mono hHeld.2.1.size), hHeld.2.2.below hb6 (fun k hk => (hHeld.2.2.lt k hk).2)⟩
                  clear hK K
                  (try simp only [Act.put, List.setIfInBounds_toArray, List.set_cons_zero, List.set_cons_succ])
                  have hcv6 : (convert 22 9 (.slice A6 4 c6)).run Tryd.prog w6 = .ok (.string TLa) w6 := by
                    have := run_conv (P := Tryd.prog) c6 hr6 22 9 5 Tryd.underlying22 Tryd.underlying5 Tryd.underlying9
                    rw [HTLa.out]; exact this
                  refine wpAnyH_ready (rs := [8]) (by kernel_rfl) (by simp) ?_
                  refine AllReadyH.cons (by simp only [List.getElem?_toArray, List.getElem?_cons_succ, List.getElem?_cons_zero]; rfl) (fun K hK => ?_) AllReadyH.nil
                  go_simp
                  skip
                  refine hK.out _ _ ?_ (fun hHeld => ?_)
                  · exact hHeld
                  clear hK K
                  (try simp only [Act.put, List.setIfInBounds_toArray, List.set_cons_zero, List.set_cons_succ])
                  refine wpAnyH_take (i := 9) (v := .bool true) (by simp only [List.getElem?_toArray, List.getElem?_cons_succ, List.getElem?_cons_zero]; rfl) (by kernel_rfl) (by kernel_rfl) (by kernel_rfl) (fun _ _ _ h => h) (Or.inl ⟨by rfl, ?_⟩) (by assumption) ?_
                  · (intro w hSw; (try dsimp only at hSw); go_simp; (try simp [hTa]))
                  (try simp only [Act.put, List.setIfInBounds_toArray, List.set_cons_zero, List.set_cons_succ])
                  refine wpAnyH_take (i := 10) (v := ?_) (by simp only [List.getElem?_toArray, List.getElem?_cons_succ, List.getElem?_cons_zero]; rfl) (by kernel_rfl) (by kernel_rfl) (by kernel_rfl) (fun _ _ _ h => h) (Or.inl ⟨by rfl, ?_⟩) (by assumption) ?_
                  rotate_left
                  · (intro w hSw; (try dsimp only at hSw); go_simp; (try with_reducible rfl))
                  (try simp only [Act.put, List.setIfInBounds_toArray, List.set_cons_zero, List.set_cons_succ])
                  refine wpAnyH_take (i := 11) (v := undef) (by simp only [List.getElem?_toArray, List.getElem?_cons_succ, List.getElem?_cons_zero]; rfl) (by kernel_rfl) (by kernel_rfl) (by kernel_rfl) (fun _ _ _ h => h) (Or.inr ⟨by rfl, rfl⟩) (by assumption) ?_
                  (try simp only [Act.put, List.setIfInBounds_toArray, List.set_cons_zero, List.set_cons_succ])
                  refine wpAnyH_take (i := 12) (v := undef) (by simp only [List.getElem?_toArray, List.getElem?_cons_succ, List.getElem?_cons_zero]; rfl) (by kernel_rfl) (by kernel_rfl) (by kernel_rfl) (fun _ _ _ h => h) (Or.inr ⟨by rfl, rfl⟩) (by assumption) ?_
                  (try simp only [Act.put, List.setIfInBounds_toArray, List.set_cons_zero, List.set_cons_succ])
                  refine wpAnyH_take (i := 13) (v := ?_) (by simp only [List.getElem?_toArray, List.getElem?_cons_succ, List.getElem?_cons_zero]; rfl) (by kernel_rfl) (by kernel_rfl) (by kernel_rfl) (fun _ _ _ h => h) (Or.inl ⟨by rfl, ?_⟩) (by assumption) ?_
                  rotate_left
                  · (intro w hSw; (try dsimp only at hSw); go_simp; (try with_reducible rfl))
                  (try simp only [Act.put, List.setIfInBounds_toArray, List.set_cons_zero, List.set_cons_succ])
                  refine wpAnyH_done (by kernel_rfl) ?_ _
                  refine NoPanic.normal ?_
                  obtain ⟨_, hfin6, hbuf6⟩ := hHeld
                  go_wp2_with fail
                  go_ret
                  exact ⟨rfl, hfin6⟩
end Go.Proofs.YtahbhaphodgomabDoor
