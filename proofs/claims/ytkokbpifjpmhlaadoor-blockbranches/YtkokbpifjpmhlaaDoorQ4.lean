/- The reference: all rows. -/
import Derived.Test.YtkokbpifjpmhlaaDoorQ3
namespace Go.Proofs.YtkokbpifjpmhlaaDoor
set_option linter.unusedSimpArgs false
set_option linter.unusedVariables false
open Go.RowKit

theorem Tryd.info42 : (Tryd.prog.info? 42).map (fun i => (i.zero, i.size, i.bytes)) = some (some (.slice none 0 0), 1, 24) := by kernel_rfl
/-- Rows of digests, each a slice; none of them lies in block ob. -/
def RowsAt (w : World) (ob : Option Nat) (vs : List Value) (hs : List (List Nat)) : Prop :=
  ∀ i v, vs[i]? = some v → ∃ A c, v = .slice A (rowK hs i).length c ∧ RH w w.heap.size A (rowK hs i).length (rowK hs i) ∧ ∀ g off, A = some ⟨g, off, none⟩ → 0 < (rowK hs i).length → some g ≠ ob
theorem RowsAt.below {w w' : World} {ob : Option Nat} {vs : List Value} {hs : List (List Nat)} (h : RowsAt w ob vs hs) (hb : Below w.heap.size w w') : RowsAt w' ob vs hs := by
  intro i v hv
  obtain ⟨A, c, e, hr, hn⟩ := h i v hv
  exact ⟨A, c, e, (hr.below hb).up hb.size, hn⟩
theorem RH.grown {w w' : World} {A : Option Addr} {n : Nat} {hs : List (List Nat)} {row : Option Nat} (h : RH w w.heap.size A n hs) (hg : w.grownBy w' row) (hn : ∀ g off, A = some ⟨g, off, none⟩ → 0 < n → some g ≠ row) : RH w' w'.heap.size A n hs := by
  refine ⟨h.len, h.is_, ⟨h.rd.len, fun h0 => ?_⟩⟩
  obtain ⟨g, off, e, hlt, hc⟩ := h.rd.at_ h0
  have := hg.size
  refine ⟨g, off, e, by omega, fun j u hu => ?_⟩
  rw [World.cell?_of_block (w := w) (a := ⟨g, off + j, none⟩) (hg.block g hlt (hn g off e h0))]
  exact hc j u hu
/-- A row is laid behind. -/
theorem RowsAt.add {w w' : World} {v v' u : Value} {vs : List Value} {hs : List (List Nat)} (h : RowsAt w v.ownBlock vs hs) (hg : w.grownBy w' v.ownBlock) (ho : v'.ownBlock = v.ownBlock ∨ ∀ k, v'.ownBlock = some k → w.heap.size ≤ k)
    (hu : ∃ A c, u = .slice A (rowK hs vs.length).length c ∧ RH w w.heap.size A (rowK hs vs.length).length (rowK hs vs.length) ∧ ∀ g off, A = some ⟨g, off, none⟩ → 0 < (rowK hs vs.length).length → some g ≠ v.ownBlock) : RowsAt w' v'.ownBlock (vs ++ [u]) hs := by
  have key : ∀ (i : Nat) (x : Value), (∃ A c, x = .slice A (rowK hs i).length c ∧ RH w w.heap.size A (rowK hs i).length (rowK hs i) ∧ ∀ g off, A = some ⟨g, off, none⟩ → 0 < (rowK hs i).length → some g ≠ v.ownBlock) →
      ∃ A c, x = .slice A (rowK hs i).length c ∧ RH w' w'.heap.size A (rowK hs i).length (rowK hs i) ∧ ∀ g off, A = some ⟨g, off, none⟩ → 0 < (rowK hs i).length → some g ≠ v'.ownBlock := by
    rintro i x ⟨A, c, e, hr, hn⟩
    refine ⟨A, c, e, hr.grown hg hn, fun g off eA h0 e' => ?_⟩
    rcases ho with e1 | e1
    · exact hn g off eA h0 (e'.trans e1)
    · have h1 := e1 g e'.symm
      obtain ⟨g2, off2, e2, hlt, _⟩ := hr.rd.at_ h0
      rw [eA] at e2
      injection e2 with e2
      injection e2 with e2 e3
      omega
  intro i x hx
  by_cases hi : i < vs.length
  · rw [List.getElem?_append_left hi] at hx
    exact key i x (h i x hx)
  · rw [List.getElem?_append_right (by omega)] at hx
    have h0 : i - vs.length = 0 := by
      have := (List.getElem?_eq_some_iff.1 hx).1
      simp at this; omega
    rw [h0] at hx
    simp at hx
    subst hx
    have : i = vs.length := by omega
    subst this
    exact key _ _ hu

set_option maxHeartbeats 1000000 in
set_option maxRecDepth 100000 in
theorem rows_any (TB : List Int) (eTB : TAB = TB) (A : Option Addr) (n c : Nat) (hs : List (List Nat)) (w : World) (hr : RH w w.heap.size A n hs) (hn : (n : Int) ≤ 100000) :
    Calls Tryd.prog 23 #[.agg (us TB).toArray, .slice A n c] w fun e w' => ∃ v' vs k, e = .returned v' ∧ w'.ownsRow (w.heap.size + 1) 42 1 v' (k + 1) vs ∧ RowsAt w' v'.ownBlock vs hs ∧ (∀ i, i < k → 1 < (rowK hs i).length) ∧ (rowK hs k).length ≤ 1 ∧ k ≤ n ∧ Below w.heap.size w w' := by
  have HL := Lib.hid hr.len
  have HTB := Lib.hid eTB
  obtain ⟨i0, hi0, hz0, hz1, hz2⟩ := info_parts Tryd.info42
  have tbl : (us TB).length = 72 := by rw [us_len, ← eTB]; decide
  have HZT := Lib.hid (show (Tryd.prog.info? 47).map (·.size) = some (us TB).length by rw [tbl]; exact Tryd.size47)
  have kt0 : Blk ((w.alloc (.cells (us TB).toArray 47)).alloc (.cells #[.slice A n c] 42)) w.heap.size 47 (us TB).toArray := heap_alloc2_old w _ _
  have hB0 : Below w.heap.size w ((w.alloc (.cells (us TB).toArray 47)).alloc (.cells #[.slice A n c] 42)) := ((Below.refl _ _).alloc (Nat.le_refl _) _).alloc (by simp) _
  have ho0 : ((w.alloc (.cells (us TB).toArray 47)).alloc (.cells #[.slice A n c] 42)).ownsRow (w.heap.size + 1) 42 1 (.slice (some ⟨w.heap.size + 1, 0, none⟩) 1 1) (0 + 1) [.slice A n c] := by
    have := World.ownsRow_lit (base := w.heap.size + 1) (e := 42) (size := 1) (w.alloc (.cells (us TB).toArray 47)) #[.slice A n c] 1 (by simp) (by unfold maxLen; omega) rfl
    simpa using this
  have hra0 : RowsAt ((w.alloc (.cells (us TB).toArray 47)).alloc (.cells #[.slice A n c] 42)) (some (w.heap.size + 1)) [.slice A n c] hs := by
    intro i v hv
    have hi : i = 0 := by have := (List.getElem?_eq_some_iff.1 hv).1; simp at this; exact this
    subst hi
    simp at hv
    subst hv
    refine ⟨A, c, by show Value.slice A n c = .slice A hs.length c; rw [hr.len], ?_, fun g off e h0 e' => ?_⟩
    · have e : (rowK hs 0).length = n := hr.len
      rw [e]
      exact (hr.below hB0).up hB0.size
    · obtain ⟨g2, off2, e2, hlt, _⟩ := hr.rd.at_ (by have : 0 < hs.length := h0; rw [hr.len] at this; exact this)
      rw [e] at e2
      injection e2 with e2
      injection e2 with e2 e3
      injection e' with e'
      omega
  clear eTB tbl
  go_enter Tryd.func23, Tryd.ntmps23
  go_wp2_with fail
  generalize (w.alloc (.cells (us TB).toArray 47)).alloc (.cells #[.slice A n c] 42) = w0 at *
  go_loopg [5] n (fun kk out wr => ∃ (k : Nat) (vs : List Value), kk = (rowK hs k).length ∧ Hid (k + (rowK hs k).length ≤ n ∨ k = 0) ∧ wr.ownsRow (w.heap.size + 1) 42 1 out (k + 1) vs ∧ RowsAt wr out.ownBlock vs hs ∧ Hid (∀ i, i < k → 1 < (rowK hs i).length) ∧ Blk wr w.heap.size 47 (us TB).toArray ∧ Below w.heap.size w wr)
  case atStart => exact ⟨0, [.slice A n c], hr.len.symm, Lib.hid (Or.inr rfl), ho0, hra0, Lib.hid (by intro i hi; omega), kt0, hB0⟩
  case round =>
    obtain ⟨k, vs, hk, HKN, ho, hra, HLT, kt, hb⟩ := hrel
    have HK := Lib.hid hk
    clear hk ho0 kt0 hB0 hra0
    have hvl : vs.length = k + 1 := by have := ho.1; omega
    have hkn : k ≤ n := by have := HKN.out; omega
    obtain ⟨u, hu⟩ : ∃ u, vs[k]? = some u := ⟨_, List.getElem?_eq_getElem (by omega)⟩
    obtain ⟨A1, c1, rfl, hr1, hn1⟩ := hra k u hu
    have hrk : (rowK hs k).length ≤ n := by
      rcases HKN.out with h | h
      · omega
      · subst h; exact Nat.le_of_eq hr.len
    obtain ⟨L, HLe⟩ : ∃ L, Hid (L = (rowK hs k).length) := ⟨_, Lib.hid rfl⟩
    have HRA := Lib.hid hra
    have HO := Lib.hid ho
    have hlt5 := ho.lt
    obtain ⟨g, cap, rfl, hgb, hgl, hKc, hcm⟩ := own_open ho (by omega)
    have hcell : wr.cell? ⟨g, k, none⟩ = some (.slice A1 L c1) := by
      have := ho.cellAt k (by omega)
      rw [this, hu, HLe.out]
    have hK1 : ((k + 1 : Nat) : Int) - 1 = (k : Int) := by omega
    rw [← HLe.out] at hr1 hn1 hrk
    by_cases h1 : 1 < L
    · have h1' : (1 : Int) < (L : Int) := by omega
      have HRT : Hid (∀ wx, Below wr.heap.size wr wx → wx.rangeAt w.heap.size 0 (us TB)) := Lib.hid fun wx hx => (kt.below hx kt.lt).range
      have hw1 : IntKind.i64.wrap ((k : Int) + 1 - 1) = (k : Int) := by rw [IntWalk.i64_in _ (by omega)]; omega
      have hw1' : IntKind.i64.wrap (k : Int) = (k : Int) := by rw [IntWalk.i64_in _ (by omega)]
      have hkk : (k : Int) < (k : Int) + 1 := by omega
      have HAB := Lib.hid (fun wx (hx : Below wr.heap.size wr wx) => refabove_any TB HTB.out A1 L c1 (rowK hs k) wx ((hr1.below hx).up hx.size) (by omega))
      clear hu hvl
      go_wp2_with fail
      refine wp_region_noPanic ?_
      refine wp_region_held_drew (S := (fun wx => Below w.heap.size w wx ∧ wx.rangeAt w.heap.size 0 (us TB) ∧ wx.cell? ⟨g, k, none⟩ = some (.slice A1 L c1))) (by kernel_rfl) (⟨Below.drew' hb, HRT.out _ (Below.drew' (Below.refl _ _)), hcell⟩) (fun hHeld => ?_)
      refine wpAnyH_take (i := 0) (v := .agg (us TB).toArray) (by simp only [List.getElem?_toArray, List.getElem?_cons_succ, List.getElem?_cons_zero]; rfl) (by kernel_rfl) (by kernel_rfl) (by kernel_rfl) (fun _ _ _ h => h) (yieldsIf_load_mid (by rfl) 47 (.tmp 2) rfl w.heap.size (0) rfl (us TB) _ (fun wx hx => hx.2.1) Tryd.underlying47 rfl (HZT.out)) (by assumption) ?_
      (try simp only [Act.put, List.setIfInBounds_toArray, List.set_cons_zero, List.set_cons_succ])
      refine wpAnyH_take (i := 1) (v := ?_) (by simp only [List.getElem?_toArray, List.getElem?_cons_succ, List.getElem?_cons_zero]; rfl) (by kernel_rfl) (by kernel_rfl) (by kernel_rfl) (fun _ _ _ h => h) (Or.inl ⟨by rfl, ?_⟩) (by assumption) ?_
      rotate_left
      · (intro w hSw; (try dsimp only at hSw); go_simp; (try with_reducible rfl))
      (try simp only [Act.put, List.setIfInBounds_toArray, List.set_cons_zero, List.set_cons_succ])
      refine wpAnyH_take (i := 2) (v := ?_) (by simp only [List.getElem?_toArray, List.getElem?_cons_succ, List.getElem?_cons_zero]; rfl) (by kernel_rfl) (by kernel_rfl) (by kernel_rfl) (fun _ _ _ h => h) (Or.inl ⟨by rfl, ?_⟩) (by assumption) ?_
      rotate_left
      · (intro w hSw; (try dsimp only at hSw); go_simp; (try with_reducible rfl))
      (try simp only [Act.put, List.setIfInBounds_toArray, List.set_cons_zero, List.set_cons_succ])
      refine wpAnyH_take (i := 3) (v := ?_) (by simp only [List.getElem?_toArray, List.getElem?_cons_succ, List.getElem?_cons_zero]; rfl) (by kernel_rfl) (by kernel_rfl) (by kernel_rfl) (fun _ _ _ h => h) (Or.inl ⟨by rfl, ?_⟩) (by assumption) ?_
      rotate_left
      · (intro w hSw; (try dsimp only at hSw); go_simp; (try with_reducible rfl))
      (try simp only [Act.put, List.setIfInBounds_toArray, List.set_cons_zero, List.set_cons_succ])
      refine wpAnyH_take (i := 4) (v := .int .i64 (k : Int)) (by simp only [List.getElem?_toArray, List.getElem?_cons_succ, List.getElem?_cons_zero]; rfl) (by kernel_rfl) (by kernel_rfl) (by kernel_rfl) (fun _ _ _ h => h) (Or.inl ⟨by rfl, ?_⟩) (by assumption) ?_
      · (intro w hSw; (try dsimp only at hSw); go_simp; (try simp [hw1, hw1']))
      (try simp only [Act.put, List.setIfInBounds_toArray, List.set_cons_zero, List.set_cons_succ])
      refine wpAnyH_take (i := 5) (v := ?_) (by simp only [List.getElem?_toArray, List.getElem?_cons_succ, List.getElem?_cons_zero]; rfl) (by kernel_rfl) (by kernel_rfl) (by kernel_rfl) (fun _ _ _ h => h) (Or.inl ⟨by rfl, ?_⟩) (by assumption) ?_
      rotate_left
      · (intro w hSw; (try dsimp only at hSw); go_simp; (try with_reducible rfl))
      (try simp only [Act.put, List.setIfInBounds_toArray, List.set_cons_zero, List.set_cons_succ])
      refine wpAnyH_take (i := 6) (v := .slice A1 L c1) (by simp only [List.getElem?_toArray, List.getElem?_cons_succ, List.getElem?_cons_zero]; rfl) (by kernel_rfl) (by kernel_rfl) (by kernel_rfl) (fun _ _ _ h => h) (Or.inl ⟨by rfl, ?_⟩) (by assumption) ?_
      · (intro w hSw; have hcc := hSw.2.2; go_simp)
      (try simp only [Act.put, List.setIfInBounds_toArray, List.set_cons_zero, List.set_cons_succ])
      refine wpAnyH_ready (rs := [7]) (by kernel_rfl) (by simp) ?_
      refine AllReadyH.cons (by simp only [List.getElem?_toArray, List.getElem?_cons_succ, List.getElem?_cons_zero]; rfl) (fun K hK => ?_) AllReadyH.nil
      go_simp
      refine (HAB.out _ (Below.drew' (Below.refl _ _))).mono ?_
      rintro ee w2 ⟨v2, rfl, ho2, hb2⟩
      have hB2 : Below w.heap.size w w2 := hHeld.1.trans (hb2.mono hHeld.1.size)
      have hb2' : Below wr.heap.size wr w2 := ⟨hb2.os, hb2.tape, hb2.output, hb2.size, hb2.block⟩
      have hc2 : w2.cell? ⟨g, k, none⟩ = some (.slice A1 L c1) := (hb2'.cell (p := ⟨g, k, none⟩) hgl).trans hcell
      refine hK.out _ _ ?_ (fun hHeld => ?_)
      · exact ⟨hB2, HRT.out _ hb2', hc2⟩
      clear hK K
      (try simp only [Act.put, List.setIfInBounds_toArray, List.set_cons_zero, List.set_cons_succ])
      refine wpAnyH_take (i := 8) (v := ?_) (by simp only [List.getElem?_toArray, List.getElem?_cons_succ, List.getElem?_cons_zero]; rfl) (by kernel_rfl) (by kernel_rfl) (by kernel_rfl) (fun _ _ _ h => h) (Or.inl ⟨by rfl, ?_⟩) (by assumption) ?_
      rotate_left
      · (intro w hSw; (try dsimp only at hSw); go_simp; (try with_reducible rfl))
      (try simp only [Act.put, List.setIfInBounds_toArray, List.set_cons_zero, List.set_cons_succ])
      refine wpAnyH_done (by kernel_rfl) ?_ _
      refine NoPanic.normal ?_
      have how2 := ownN_below HO.out hb2' (fun q hq => (hlt5 q hq).2)
      have hra2 := HRA.out.below hb2'
      have kt2 := kt.below hb2' kt.lt
      have hlt2 := ho2.lt
      obtain ⟨A2, c2, rfl, _, _, hr2⟩ := own_b32 ho2 (by rw [abv_len, hr1.len]) (abv_is _)
      have hvl2 : vs.length = k + 1 := by have := HO.out.1; omega
      have hL2 : (rowK hs (k + 1)).length = (L + 1) / 2 := by show (abv (rowK hs k)).length = _; rw [abv_len, ← HLe.out]
      obtain ⟨v3, w3, hrun, ho3, hg3, hown3⟩ := run_appN (P := Tryd.prog) (w2.alloc (.cells [Value.slice A2 ((L + 1) / 2) c2].toArray 42)) (w.heap.size + 1) 58 58 42 i0 _ 1 24 Tryd.underlying58 hi0 hz0 hz1 hz2 rfl (by omega) (how2.alloc _) (RdN.new w2 1 1 [Value.slice A2 ((L + 1) / 2) c2] 42 (0, 0) rfl) (c := 1) (by simp [Value.oneCell']) (by unfold maxLen; omega) (by omega) (by have := hB2.size; have := hb2'.size; have := hgl; simp; omega)
      have hg3' : w2.grownBy w3 (Value.slice (some ⟨g, 0, none⟩) (k + 1) cap).ownBlock := (World.grownBy_alloc w2 _ _).trans hg3
      have hown3' : v3.ownBlock = (Value.slice (some ⟨g, 0, none⟩) (k + 1) cap).ownBlock ∨ ∀ q, v3.ownBlock = some q → w2.heap.size ≤ q := hown3.imp id fun e q hq => by have := e q hq; simp at this; omega
      have hra3 : RowsAt w3 v3.ownBlock (vs ++ [Value.slice A2 ((L + 1) / 2) c2]) hs := hra2.add hg3' hown3' ⟨A2, c2, by rw [hvl2, hL2], by rw [hvl2, hL2]; exact hr2, fun g2 off2 e2 h0 e' => by
        have h3 := (hlt2 g2 (by rw [e2]; rfl)).1
        have h4 : g2 = g := by simpa [Value.ownBlock] using e'
        have : wr.drew.heap.size = wr.heap.size := rfl
        omega⟩
      have hB3 : Below w.heap.size w w3 := hB2.grown hg3' hB2.size (fun q hq => by have := (hlt5 q hq).1; omega)
      have kt3 : Blk w3 w.heap.size 47 (us TB).toArray := (hg3'.block _ kt2.lt (fun e => by have := (hlt5 _ e.symm).1; omega)).trans kt2
      have HRUN := Lib.hid hrun
      have HO3 := Lib.hid ho3
      have HRA3 := Lib.hid hra3
      have HK3 := Lib.hid kt3
      have HL2 := Lib.hid hL2
      clear hHeld ho3 ho2 hg3 hrun hb2 hB2 hb kt kt2 kt3 hb2' hra2 hra3 how2 hr2 hg3' hown3 hown3' hc2 hcell hra ho hlt5 hlt2 hvl2 hL2 hr1 hn1
      go_wp2_with (first
        | (refine arm_append 58 (.tmp 25) (.tmp 27) (v' := ?_) (w' := ?_) ?hr2 ?_; case hr2 => exact HRUN.out))
      go_roundg ((L + 1) / 2)
      case measure => have := HK.out; have := HLe.out; omega
      case rel => exact ⟨k + 1, _, HL2.out.symm, Lib.hid (Or.inl (by have := HKN.out; have := HL2.out; have := HLe.out; have := HL.out; rcases HKN.out with h | h <;> omega)), HO3.out, HRA3.out, Lib.hid (by
        intro i hi
        by_cases h : i < k
        · exact HLT.out i h
        · obtain rfl : i = k := by omega
          rw [← HLe.out]; exact h1), HK3.out, hB3⟩
    · have hdec : decide ((1 : Int) < (L : Int)) = false := by simp; omega
      have hnl : ¬ 1 < L := h1
      have hnl' : ¬ (1 : Int) < (L : Int) := by omega
      clear hu hvl
      go_wp2_with fail
      go_ret
      refine ⟨_, rfl, vs, k, ?_⟩
      exact ⟨HO.out, HRA.out, HLT.out, by rw [← HLe.out]; omega, hkn, hb⟩
end Go.Proofs.YtkokbpifjpmhlaaDoor
