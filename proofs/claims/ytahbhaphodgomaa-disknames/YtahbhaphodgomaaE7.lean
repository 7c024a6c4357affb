/- Walks: Rename. -/
import Derived.Test.YtahbhaphodgomaaE6
namespace Go.Proofs.Ytahbhaphodgomaa
set_option linter.unusedSimpArgs false
set_option linter.unusedVariables false
open Go.RowKit Go.Maps

def DS.rename (s : DS) (x y : List UInt8) : DS × Nat :=
  if named y = false then (s, 1) else if s.down then (s, 10) else match lookA s.all x with
  | none => (s, 4)
  | some f => if s.fuse = 1 then (s.step, 10) else ({ s.step with all := insA { f with name := y } (delA (delA s.all x) y) }, 0)
theorem feet_sub (gd : Nat) (mv : Option Nat) {l m : List File} (h : l.Sublist m) : (feet gd mv l).Sublist (feet gd mv m) := by
  have h1 : (l.flatMap File.foot).Sublist (m.flatMap File.foot) := by
    induction h with
    | slnil => exact List.Sublist.refl _
    | cons a _ ih => rw [List.flatMap_cons]; exact ih.trans (List.sublist_append_right _ _)
    | cons_cons a _ ih => rw [List.flatMap_cons, List.flatMap_cons]; exact (List.Sublist.refl _).append ih
  exact (((List.Sublist.refl mv.toList).append h1).cons_cons gd)
theorem used_sub {l m : List File} (h : l.Sublist m) : used l ≤ used m := by
  unfold used
  induction h with
  | slnil => exact Nat.le_refl _
  | cons a _ ih => simp only [List.map_cons, List.sum_cons]; omega
  | cons_cons a _ ih => simp only [List.map_cons, List.sum_cons]; omega
theorem Dsk.renamed {w w2 : World} {base gd bm : Nat} {fs : List File} {f : File} {room fuse : Nat} {down : Bool} (h : Dsk w base gd (some bm) fs room fuse down) (y : List UInt8) (hy : y.length ≤ 1000) (hfa : FileAt w base f) (hself : f.v.ownBlock ≠ some f.blk)
    (hdis : ∀ k ∈ f.foot, k ∉ feet gd (some bm) fs) (hlow : base ≤ f.blk) (hfit : used fs + f.data.length ≤ room)
    (hown : w2.ownsMap Try.prog 9 RP bm (fs.length + 1) ((DataW.map (fs.map ent)).put (.string y) (.lit (.int .u64 (f.blk : Int))))) (hg : w.grownBy w2 (some bm)) :
    Dsk w2 base gd (some bm) (ins { f with name := y } (fs.filter fun g => !(g.name == y))) room fuse down ∧ ∀ k ∈ feet gd (some bm) (ins { f with name := y } (fs.filter fun g => !(g.name == y))), k ∈ feet gd (some bm) fs ∨ k ∈ f.foot := by
  have hsub : (fs.filter fun g => !(g.name == y)).Sublist fs := List.filter_sublist
  have hfs := feet_sub gd (some bm) hsub
  have hp : (feet gd (some bm) (ins { f with name := y } (fs.filter fun g => !(g.name == y)))).Perm (f.foot ++ feet gd (some bm) (fs.filter fun g => !(g.name == y))) := by
    have h1 := (ins_perm { f with name := y } (fs.filter fun g => !(g.name == y))).flatMap_right File.foot
    rw [List.perm_iff_count] at h1 ⊢
    intro a
    have := h1 a
    simp only [feet, List.count_cons, List.count_append, List.flatMap_cons] at this ⊢
    simp only [this]
    simp only [File.foot]
    omega
  have hN := h.nodup
  obtain ⟨n1, n2⟩ := List.nodup_cons.1 hN
  have hgd : gd ≠ bm := fun e => n1 (by rw [e]; simp)
  have n3 : bm ∉ fs.flatMap File.foot := (List.nodup_cons.1 (by simpa using n2)).1
  have hbm : bm ∈ feet gd (some bm) fs := by simp [feet]
  have hmem : ∀ k ∈ feet gd (some bm) (ins { f with name := y } (fs.filter fun g => !(g.name == y))), k ∈ feet gd (some bm) fs ∨ k ∈ f.foot := by
    intro k hk
    rcases List.mem_append.1 (hp.mem_iff.1 hk) with h1 | h1
    · exact Or.inr h1
    · exact Or.inl (hfs.subset h1)
  refine ⟨⟨h.box.keep (hg.block gd (h.low gd (by simp [feet])).2 (fun e => hgd (by injection e))), by simp, ?_, ?_, ?_, ?_, ?_, h.room_le, h.fuse_le⟩, hmem⟩
  · intro bm' e
    injection e with e
    subst e
    have e1 : (DataW.map (fs.map ent)).put (.string y) (.lit (.int .u64 (f.blk : Int))) = .map ((ins { f with name := y } (fs.filter fun g => !(g.name == y))).map ent) := by
      rw [ins_ent]
      simp only [DataW.put]
      congr 1
      rw [List.filter_map]
      have : ((fun p : Lit × DataW Unit => !p.1.sameKey (.string y)) ∘ ent) = (fun g : File => !(g.name == y)) := by funext g; rfl
      rw [this]
      rfl
    rw [e1] at hown
    have := owns_tight hown
    rwa [List.length_map] at this
  · intro g hgm
    rcases List.mem_cons.1 ((ins_perm _ _).mem_iff.1 hgm) with rfl | hgm
    · have hk := hfa.keep (w' := w2) hg.size (fun k hm => hg.block k (by
        rcases List.mem_cons.1 hm with rfl | hm
        · exact hfa.box.lt
        · exact (hfa.buf.lt k (by simpa using hm)).2) (fun e => hdis k hm (by injection e with e; rw [e]; exact hbm)))
      exact ⟨hk.box, hk.buf, hk.cold, hk.bytes, hk.sure, hy⟩
    · have hgf := hsub.subset hgm
      exact (h.files g hgf).keep hg.size (fun k hm => hg.block k (h.low k (foot_in gd _ _ g hgf k hm)).2 (fun e => n3 (List.mem_flatMap.2 ⟨g, hgf, by injection e with e; rw [← e]; exact hm⟩)))
  · rw [hp.nodup_iff, List.nodup_append]
    refine ⟨?_, hN.sublist hfs, fun a ha b hb e => ?_⟩
    · unfold File.foot
      rw [List.nodup_cons]
      refine ⟨fun hm => hself (by simpa using hm), ?_⟩
      cases f.v.ownBlock <;> simp
    · subst e
      exact hdis a ha (hfs.subset hb)
  · intro k hk
    rcases hmem k hk with h1 | h1
    · exact ⟨(h.low k h1).1, Nat.lt_of_lt_of_le (h.low k h1).2 hg.size⟩
    · rcases List.mem_cons.1 h1 with rfl | h1
      · exact ⟨hlow, Nat.lt_of_lt_of_le hfa.box.lt hg.size⟩
      · have := hfa.buf.lt k (by simpa using h1)
        exact ⟨this.1, Nat.lt_of_lt_of_le this.2 hg.size⟩
  · have h1 := ((ins_perm { f with name := y } (fs.filter fun g => !(g.name == y))).map (fun f => f.data.length)).sum_nat
    have h2 := used_sub hsub
    unfold used at *
    simp only [List.map_cons, List.sum_cons] at h1
    omega

set_option maxHeartbeats 1000000 in
set_option maxRecDepth 100000 in
theorem rename_any (w : World) (base gd : Nat) (L : List Nat) (s : DS) (x y : List UInt8) (h : Dk w base gd L s) (hx : x.length ≤ 1000) (hy : y.length ≤ 1000) (hB : base ≤ w.heap.size) (hlen : s.all.length ≤ 1000000) :
    Calls Try.prog 15 #[.pointer (some ⟨gd, 0, none⟩), str x, str y] w fun e w' => e = .returned (.int .i64 ((s.rename x y).2 : Int)) ∧ Nxt w base gd L w' (s.rename x y).1 := by
  have hNm := Lib.hid (named_any y w hy)
  cases hnm : named y with
  | false =>
    rw [show s.rename x y = (s, 1) by simp [DS.rename, hnm]]
    rw [hnm] at hNm
    have HN := Lib.hid h.same
    clear h hx hy hnm hlen
    unfold str at hNm ⊢
    go_enter Try.func15, Try.ntmps15
    go_wp2_with fail
    refine hNm.out.mono ?_
    rintro e w1 ⟨rfl, rfl⟩
    go_wp2_with fail
    go_ret
    exact ⟨rfl, HN.out⟩
  | true =>
    rw [hnm] at hNm
    rcases find_cases h x hx with ⟨hdn, hF⟩ | ⟨hdn, hl, hF⟩ | ⟨mv, pre, f, post, hdn, hl, hfx, hd, hA, hL, hF⟩
    · rw [show s.rename x y = (s, 10) by simp [DS.rename, hdn, hnm]]
      have HN := Lib.hid h.same
      have hF := Lib.hid hF
      clear h hdn hx hnm hy hlen
      unfold str at hF hNm ⊢
      go_enter Try.func15, Try.ntmps15
      go_wp2_with fail
      refine hNm.out.mono ?_
      rintro e w1 ⟨rfl, rfl⟩
      go_wp2_with fail
      refine hF.out.mono ?_
      rintro e w1 ⟨rfl, rfl⟩
      go_wp2_with fail
      go_ret
      exact ⟨rfl, HN.out⟩
    · rw [show s.rename x y = (s, 4) by simp [DS.rename, hdn, hl, hnm]]
      have HN := Lib.hid h.same
      have hF := Lib.hid hF
      clear h hdn hx hl hnm hy hlen
      unfold str at hF hNm ⊢
      go_enter Try.func15, Try.ntmps15
      go_wp2_with fail
      refine hNm.out.mono ?_
      rintro e w1 ⟨rfl, rfl⟩
      go_wp2_with fail
      refine hF.out.mono ?_
      rintro e w1 ⟨rfl, rfl⟩
      go_wp2_with fail
      go_ret
      exact ⟨rfl, HN.out⟩
    · have hS := step_any w base gd mv (pre ++ f :: post) s.room s.fuse false hd
      have hD : s.down = false := hdn
      by_cases hf1 : s.fuse = 1
      · rw [show s.rename x y = (s.step, 10) by simp [DS.rename, hdn, hl, hf1, hnm]]
        rw [if_pos hf1, Bool.false_or, decide_eq_true hf1] at hS
        have HN : ∀ w', Dsk w' base gd mv (pre ++ f :: post) s.room (s.fuse - 1) true → Tch w w' [gd] → Nxt w base gd L w' s.step := fun w' h1 h2 =>
          ⟨L, ⟨mv, _, by simpa [DS.step, hD, hf1] using h1, by simp [DS.step, hA], hL.symm⟩, h2.more (by rw [hL]; simp [feet]), fun k hk => Or.inl hk⟩
        have HN := Lib.hid HN
        have hS := Lib.hid hS
        have hF := Lib.hid hF
        clear hd h hx hA hL hl hdn hD hnm hy hlen
        unfold str at hF hNm ⊢
        go_enter Try.func15, Try.ntmps15
        go_wp2_with fail
        refine hNm.out.mono ?_
        rintro e w1 ⟨rfl, rfl⟩
        go_wp2_with fail
        refine hF.out.mono ?_
        rintro e w1 ⟨rfl, rfl⟩
        go_wp2_with fail
        refine hS.out.mono ?_
        rintro e w1 ⟨rfl, hd1, ht1⟩
        have HR := Lib.hid (HN.out w1 hd1 ht1)
        clear hd1
        go_wp2_with fail
        go_ret
        exact ⟨rfl, HR.out⟩
      · rw [show s.rename x y = ({ s.step with all := insA { abs f with name := y } (delA (delA s.all x) y) }, 0) by simp [DS.rename, hdn, hl, hf1, hnm]]
        rw [if_neg hf1, Bool.false_or, decide_eq_false hf1] at hS
        have hmv : ∃ bm, mv = some bm := by
          cases mv with
          | none => have := hd.none_ rfl; simp at this
          | some bm => exact ⟨bm, rfl⟩
        obtain ⟨bm, rfl⟩ := hmv
        have hkey := key_str x hx
        have hkey2 := key_str y hy
        have hfl : (pre ++ f :: post).length ≤ 1000000 := by rw [hA, List.length_map] at hlen; exact hlen
        have HREM : ∀ w1 w2, Dsk w1 base gd (some bm) (pre ++ f :: post) s.room (s.fuse - 1) false → w2.ownsMap Try.prog 9 RP bm (pre ++ f :: post).length ((DataW.map ((pre ++ f :: post).map ent)).del (.string x)) → w1.mapTurned w2 bm →
            Dsk w2 base gd (some bm) (pre ++ post) s.room (s.fuse - 1) false := by
          intro w1 w2 h1 hown htn
          rw [← hfx] at hown
          exact (h1.removed hown htn.grown).1
        have HN : ∀ w1 w2 w3, Dsk w1 base gd (some bm) (pre ++ f :: post) s.room (s.fuse - 1) false → Tch w w1 [gd] → w2.ownsMap Try.prog 9 RP bm (pre ++ f :: post).length ((DataW.map ((pre ++ f :: post).map ent)).del (.string x)) → w1.mapTurned w2 bm →
            w3.ownsMap Try.prog 9 RP bm ((pre ++ post).length + 1) ((DataW.map ((pre ++ post).map ent)).put (.string y) (.lit (.int .u64 (f.blk : Int)))) → w2.grownBy w3 (some bm) → Nxt w base gd L w3 { s.step with all := insA { abs f with name := y } (delA (delA s.all x) y) } := by
          intro w1 w2 w3 h1 h2 hown htn hown3 hg3
          rw [← hfx] at hown
          obtain ⟨r1, r2, r3, r4⟩ := h1.removed hown htn.grown
          have hfit := h1.fit
          rw [used_split] at hfit
          have hblk : f.blk ∈ feet gd (some bm) (pre ++ f :: post) := foot_in gd _ _ f (by simp) _ (by simp [File.foot])
          obtain ⟨q1, q2⟩ := r1.renamed y hy r3 h1.self_ne r4 (h1.low _ hblk).1 hfit hown3 hg3
          have edn : (s.down || decide (s.fuse = 1)) = false := by rw [hD, decide_eq_false hf1]; rfl
          refine ⟨_, ⟨some bm, ins { f with name := y } ((pre ++ post).filter fun g => !(g.name == y)), by show Dsk w3 base gd (some bm) _ s.room (s.fuse - 1) (s.down || decide (s.fuse = 1)); rw [edn]; exact q1, ?_, rfl⟩, ?_, fun k hk => Or.inl ?_⟩
          · show _ = insA { abs f with name := y } (delA (delA s.all x) y)
            rw [ins_abs, hA, ← hfx, delA_abs hd]
            congr 1
            unfold delA
            rw [List.filter_map]
            rfl
          · have hbL : bm ∈ L := by rw [hL]; simp [feet]
            refine ((h2.more (L1 := L) (by rw [hL]; simp [feet])).trans (Tch.of_grown (L := L) htn.grown (fun k e => by injection e with e; rw [← e]; exact hbL)) (fun i hi => Or.inl hi)).trans (Tch.of_grown (L := L) hg3 (fun k e => by injection e with e; rw [← e]; exact hbL)) (fun i hi => Or.inl hi)
          · rw [hL]
            rcases q2 k hk with h3 | h3
            · exact r2 k h3
            · exact foot_in gd _ _ f (by simp) k h3
        have HN := Lib.hid HN
        have HREM := Lib.hid HREM
        have hS := Lib.hid hS
        have hF := Lib.hid hF
        have hfl2 : (pre ++ post).length ≤ 1000000 := by simp at hfl ⊢; omega
        clear h hx hA hL hl hdn hD hd hfx hlen hnm hy hfl
        obtain ⟨D, HDD⟩ : ∃ D, Hid (DataW.map ((pre ++ f :: post).map ent) = D) := ⟨_, Lib.hid rfl⟩
        obtain ⟨NN, HNN⟩ : ∃ NN, Hid ((pre ++ f :: post).length = NN) := ⟨_, Lib.hid rfl⟩
        obtain ⟨D2, HDD2⟩ : ∃ D, Hid (DataW.map ((pre ++ post).map ent) = D) := ⟨_, Lib.hid rfl⟩
        obtain ⟨N2, HNN2⟩ : ∃ NN, Hid ((pre ++ post).length = NN) := ⟨_, Lib.hid rfl⟩
        rw [HDD.out, HNN.out, HDD2.out, HNN2.out] at HN
        rw [HDD.out, HNN.out] at HREM
        rw [HNN2.out] at hfl2
        unfold str at hF hkey hkey2 hNm ⊢
        go_enter Try.func15, Try.ntmps15
        go_wp2_with fail
        refine hNm.out.mono ?_
        rintro e w1 ⟨rfl, rfl⟩
        go_wp2_with fail
        refine hF.out.mono ?_
        rintro e w1 ⟨rfl, rfl⟩
        go_wp2_with fail
        refine hS.out.mono ?_
        rintro e w1 ⟨rfl, hd1, ht1⟩
        have hown := hd1.map bm rfl
        rw [HDD.out, HNN.out] at hown
        have hc1 := hd1.box.c1
        have HR := Lib.hid (HN.out w1 · · hd1 ht1)
        have HQ := Lib.hid (HREM.out w1 · hd1)
        clear hd1
        go_wp2_with (first
          | (at_delete; refine wpList_delete_own _ rfl _ _ 62 9 rfl 69 law Try.underlying62 _ bm _ _ rfl hown _ _ rfl hkey ?next)
          | fail)
        case next =>
          intro w2 hown2 hturn2
          have hd2 := HQ.out w2 hown2 hturn2
          have hownB := hd2.map bm rfl
          rw [HDD2.out, HNN2.out] at hownB
          have hc1b := hd2.box.c1
          have HRR := Lib.hid (HR.out w2 · hown2 hturn2)
          clear hown2 hturn2 hd2 hown hc1
          go_wp2_with (first
            | (at_mapUpdate; refine wpList_mapUpdate_own _ rfl _ _ _ 62 rfl 9 69 law Try.underlying62 RP bm N2 _ rfl hownB ?n1 _ _ (.string y) rfl rfl hkey2 _ [] (RP_some _) ?next2)
            | fail)
          case n1 => unfold maxLen; omega
          case next2 =>
            intro w3 hown3 hg3
            have HF := Lib.hid (HRR.out w3 hown3 hg3)
            clear hown3 hg3
            go_wp2_with fail
            go_ret
            exact ⟨rfl, HF.out⟩
end Go.Proofs.Ytahbhaphodgomaa
