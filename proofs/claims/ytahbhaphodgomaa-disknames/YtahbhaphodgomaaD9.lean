/- Walks: Create. -/
import Derived.Test.YtahbhaphodgomaaD8
import Derived.Laws.Cover3
namespace Go.Proofs.Ytahbhaphodgomaa
set_option linter.unusedSimpArgs false
set_option linter.unusedVariables false
open Go.RowKit Go.Maps

theorem run_eql_map (w : World) (m : Option Nat) : (binOp .eql 62 (.map m) (.map none)).run Try.prog w = .ok (.bool m.isNone) w := by
  simp only [binOp]
  simp [run_equal_map_nil w 62 9 69 m Try.underlying62]

set_option maxHeartbeats 1000000 in
set_option maxRecDepth 100000 in
theorem create_any (w : World) (base gd : Nat) (L : List Nat) (s : DS) (x : List UInt8) (h : Dk w base gd L s) (hx : x.length ≤ 1000) (hB : base ≤ w.heap.size) (hlen : s.all.length ≤ 1000000) :
    Calls Try.prog 12 #[.pointer (some ⟨gd, 0, none⟩), str x] w fun e w' => e = .returned (.int .i64 ((s.create x).2 : Int)) ∧ Nxt w base gd L w' (s.create x).1 := by
  have hNm := Lib.hid (named_any x w hx)
  cases hnm : named x with
  | false =>
    rw [show s.create x = (s, 1) by simp [DS.create, hnm]]
    rw [hnm] at hNm
    have HN := Lib.hid h.same
    clear h hx hnm
    unfold str at hNm ⊢
    go_enter Try.func12, Try.ntmps12
    go_wp2_with fail
    refine hNm.out.mono ?_
    rintro e w1 ⟨rfl, rfl⟩
    go_wp2_with fail
    go_ret
    exact ⟨rfl, HN.out⟩
  | true =>
    rw [hnm] at hNm
    obtain ⟨mv, fs, hd, hA, hL⟩ := h
    have hc3 := hd.box.c3
    cases hdn : s.down with
    | true =>
      rw [show s.create x = (s, 10) by simp [DS.create, hnm, hdn]]
      rw [hdn] at hc3
      have HN := Lib.hid (Dk.same ⟨mv, fs, hd, hA, hL⟩)
      clear hd hx hnm
      unfold str at hNm ⊢
      go_enter Try.func12, Try.ntmps12
      go_wp2_with fail
      refine hNm.out.mono ?_
      rintro e w1 ⟨rfl, rfl⟩
      go_wp2_with fail
      go_ret
      exact ⟨rfl, HN.out⟩
    | false =>
      rw [hdn] at hc3
      have hc1 := hd.box.c1
      have hlk := look_run hd x hx
      have hD : s.down = false := hdn
      cases hl : look fs x with
      | some f =>
        rw [show s.create x = (s, 5) by simp [DS.create, hnm, hdn, ← hA, lookA_abs, hl]]
        rw [hl] at hlk
        simp only [Option.map_some] at hlk
        have HN := Lib.hid (Dk.same ⟨mv, fs, hd, hA, hL⟩)
        clear hd hx hnm hl hdn hD hA
        unfold str at hNm hlk ⊢
        go_enter Try.func12, Try.ntmps12
        go_wp2_with fail
        refine hNm.out.mono ?_
        rintro e w1 ⟨rfl, rfl⟩
        go_wp2_with fail
        go_ret
        exact ⟨rfl, HN.out⟩
      | none =>
        rw [hl] at hlk
        simp only [Option.map_none] at hlk
        have hS := step_any w base gd mv fs s.room s.fuse s.down hd
        by_cases hf1 : s.fuse = 1
        · rw [show s.create x = (s.step, 10) by simp [DS.create, hnm, hdn, ← hA, lookA_abs, hl, hf1]]
          rw [if_pos hf1] at hS
          have HN : ∀ w', Dsk w' base gd mv fs s.room (s.fuse - 1) (s.down || decide (s.fuse = 1)) → Tch w w' [gd] → Nxt w base gd L w' s.step := fun w' h1 h2 =>
            ⟨L, ⟨mv, _, h1, hA, hL⟩, h2.more (by rw [← hL]; simp [feet]), fun k hk => Or.inl hk⟩
          have HN := Lib.hid HN
          have hS := Lib.hid hS
          clear hd hx hnm hl hdn hD hA hL
          unfold str at hNm hlk ⊢
          go_enter Try.func12, Try.ntmps12
          go_wp2_with fail
          refine hNm.out.mono ?_
          rintro e w1 ⟨rfl, rfl⟩
          go_wp2_with fail
          refine hS.out.mono ?_
          rintro e w1 ⟨rfl, hd1, ht1⟩
          have HR := Lib.hid (HN.out w1 hd1 ht1)
          clear hd1
          go_wp2_with fail
          go_ret
          exact ⟨rfl, HR.out⟩
        · rw [show s.create x = ({ s.step with all := insA ⟨x, [], 0⟩ s.all }, 0) by simp [DS.create, hnm, hdn, ← hA, lookA_abs, hl, hf1]]
          rw [if_neg hf1] at hS
          have hfl : fs.length ≤ 1000000 := by rw [← hA, List.length_map] at hlen; exact hlen
          have hkey := key_str x hx
          have hmm := @run_makeMap Try.prog
          have hem := run_eql_map
          have HN : ∀ w1 bm w2, Dsk w1 base gd (some bm) fs s.room (s.fuse - 1) (s.down || decide (s.fuse = 1)) → Tch w w1 [gd] → (mv = some bm ∨ w.heap.size ≤ bm) → base ≤ w1.heap.size →
              w2.ownsMap Try.prog 9 RP bm (fs.length + 1) ((DataW.map (fs.map ent)).put (.string x) (.lit (.int .u64 (w1.heap.size : Int)))) → (w1.alloc (.cells #[.slice none 0 0, .int .i64 0] 72)).grownBy w2 (some bm) →
              Nxt w base gd L w2 { s.step with all := insA ⟨x, [], 0⟩ s.all } := by
            intro w1 bm w2 h1 h2 hbm hB1 hown hg
            obtain ⟨r1, r2, r3⟩ := h1.added x hx hl hown hg hB1
            refine ⟨_, ⟨some bm, _, r1, ?_, rfl⟩, ?_, ?_⟩
            · show _ = insA ⟨x, [], 0⟩ s.all
              rw [ins_abs, hA]; rfl
            · refine (h2.more (L1 := L) (by rw [← hL]; simp [feet])).trans r2 (fun i hi => ?_)
              simp at hi
              subst hi
              rcases hbm with e | e
              · left; rw [← hL, e]; simp [feet]
              · exact Or.inr e
            · intro k hk
              rcases r3 k hk with h3 | h3
              · simp only [feet, List.mem_cons, List.mem_append] at h3
                rcases h3 with rfl | h3 | h3
                · left; rw [← hL]; simp [feet]
                · simp at h3
                  subst h3
                  rcases hbm with e | e
                  · left; rw [← hL, e]; simp [feet]
                  · exact Or.inr e
                · left; rw [← hL]; simp only [feet, List.mem_cons, List.mem_append]; exact Or.inr (Or.inr h3)
              · exact Or.inr (Nat.le_trans h2.size h3)
          have HN := Lib.hid HN
          have hS := Lib.hid hS
          have HL := Lib.hid hl
          cases mv with
          | some bm =>
            clear hd hx hnm hl hdn hD hA hL hlen
            unfold str at hNm hlk hkey ⊢
            go_enter Try.func12, Try.ntmps12
            go_wp2_with fail
            refine hNm.out.mono ?_
            rintro e w1 ⟨rfl, rfl⟩
            go_wp2_with fail
            refine hS.out.mono ?_
            rintro e w1 ⟨rfl, hd1, ht1⟩
            have hown := hd1.map bm rfl
            have hc1' := hd1.box.c1
            have HR := Lib.hid (HN.out w1 bm · hd1 ht1 (Or.inl rfl) (Nat.le_trans hB ht1.size))
            clear hd1 hc1 hlk hc3
            go_wp2_with (first
              | (at_mapUpdate; refine wpList_mapUpdate_own _ rfl _ _ _ 62 rfl 9 69 law Try.underlying62 RP bm fs.length _ rfl (hown.alloc _) ?n1 _ _ (.string x) rfl rfl hkey _ [] (RP_some _) ?next)
              | fail)
            case n1 => unfold maxLen; omega
            case next =>
              intro w2 hown2 hg2
              have HRR := Lib.hid (HR.out w2 hown2 hg2)
              clear hown2 hg2
              go_wp2_with fail
              go_ret
              exact ⟨rfl, HRR.out⟩
          | none =>
            clear hd hx hnm hl hdn hD hA hL hlen
            unfold str at hNm hlk hkey ⊢
            go_enter Try.func12, Try.ntmps12
            go_wp2_with fail
            refine hNm.out.mono ?_
            rintro e w1 ⟨rfl, rfl⟩
            go_wp2_with fail
            refine hS.out.mono ?_
            rintro e w1 ⟨rfl, hd1, ht1⟩
            have hc1' := hd1.box.c1
            have hf1' := hd1.box.cold 1
            obtain ⟨hd2, ht2⟩ := hd1.mapped (Nat.le_trans hB ht1.size)
            have ht3 := ht1.trans ht2 (fun i hi => Or.inl hi)
            have hown := hd2.map w1.heap.size rfl
            have hc2 := hd2.box.c1
            have HR := Lib.hid (HN.out _ w1.heap.size · hd2 ht3 (Or.inr ht1.size) (Nat.le_trans hB ht3.size))
            have hcA : (w1.alloc (.map #[] 0)).cell? ⟨gd, 1, none⟩ = some (.map none) := (World.cell?_of_block (w := w1) (a := ⟨gd, 1, none⟩) (Below.heap_alloc w1 _ gd hd1.box.lt)).trans hc1'
            have hfA : (w1.alloc (.map #[] 0)).frozen? ⟨gd, 1, none⟩ = false := (World.frozen?_of_block (w := w1) (a := ⟨gd, 1, none⟩) (Below.heap_alloc w1 _ gd hd1.box.lt)).trans hf1'
            clear hd1 hc1 hlk hc3
            go_upto_region 12 with fail
            generalize (w1.alloc (.map #[] 0)).setCell ⟨gd, 1, none⟩ (.map (some w1.heap.size)) = w5 at *
            clear hd2 hcA hfA
            go_wp2_with (first
              | (at_mapUpdate; refine wpList_mapUpdate_own _ rfl _ _ _ 62 rfl 9 69 law Try.underlying62 RP w1.heap.size fs.length _ rfl (hown.alloc _) ?n1 _ _ (.string x) rfl rfl hkey _ [] (RP_some _) ?next)
              | fail)
            case n1 => unfold maxLen; omega
            case next =>
              intro w2 hown2 hg2
              have HRR := Lib.hid (HR.out w2 hown2 hg2)
              clear hown2 hg2
              go_wp2_with fail
              go_ret
              exact ⟨rfl, HRR.out⟩
end Go.Proofs.Ytahbhaphodgomaa
