/- Walks: Append. -/
import Derived.Test.YtahbhaphodgomaaD5
namespace Go.Proofs.Ytahbhaphodgomaa
set_option linter.unusedSimpArgs false
set_option linter.unusedVariables false
open Go.RowKit Go.Maps

theorem Rd.blk {w w' : World} {B : Nat} {A : Option Addr} {n : Nat} {xs : List Value} (h : Rd w B A n xs) (hk : ∀ g off, A = some ⟨g, off, none⟩ → 0 < n → w'.heap[g]? = w.heap[g]?) : Rd w' B A n xs := by
  refine ⟨h.1, fun h0 => ?_⟩
  obtain ⟨g, off, e, hg, hc⟩ := h.2 h0
  refine ⟨g, off, e, hg, fun j u hu => ?_⟩
  rw [World.cell?_of_block (w := w) (a := ⟨g, off + j, none⟩) (hk g off e h0)]
  exact hc j u hu
theorem Rd.own {w : World} {B : Nat} {A : Option Addr} {n : Nat} {xs : List Value} (h : Rd w B A n xs) {g off : Nat} (e : A = some ⟨g, off, none⟩) (h0 : 0 < n) : g < B := by
  obtain ⟨g', off', e', hg, _⟩ := h.2 h0
  rw [e] at e'
  injection e' with e'
  injection e' with e1 e2
  rw [e1]; exact hg

theorem used_split (pre post : List File) (f : File) : used (pre ++ f :: post) = used (pre ++ post) + f.data.length := by
  simp [used]; omega

set_option maxHeartbeats 1000000 in
set_option maxRecDepth 100000 in
theorem append_any (w : World) (base gd : Nat) (L : List Nat) (s : DS) (x : List UInt8) (A : Option Addr) (n c : Nat) (b : List Nat) (h : Dk w base gd L s) (hx : x.length ≤ 1000) (hB : base ≤ w.heap.size)
    (hr : Rd w w.heap.size A n (bys b)) (hb : ∀ c ∈ b, c < 256) (hn : (n : Int) ≤ 1000000000) (hap : ∀ g off, A = some ⟨g, off, none⟩ → 0 < n → g ∉ L) :
    Calls Try.prog 13 #[.pointer (some ⟨gd, 0, none⟩), str x, .slice A n c] w fun e w' => e = .returned (.int .i64 ((s.append x b).2 : Int)) ∧ Nxt w base gd L w' (s.append x b).1 := by
  obtain ⟨i0, hi, hz0, hz1, hz2⟩ := info_parts Try.info5
  have hbl : b.length = n := by have := hr.1; rwa [bys_len] at this
  rcases find_cases h x hx with ⟨hdn, hF⟩ | ⟨hdn, hl, hF⟩ | ⟨mv, pre, f, post, hdn, hl, hfx, hd, hA, hL, hF⟩
  · rw [show s.append x b = (s, 10) by simp [DS.append, hdn]]
    have HN := Lib.hid h.same
    clear h hdn hx hr hb hap hbl
    unfold str at hF ⊢
    go_enter Try.func13, Try.ntmps13
    go_wp2_with fail
    refine hF.mono ?_
    rintro e w1 ⟨rfl, rfl⟩
    go_wp2_with fail
    go_ret
    exact ⟨rfl, HN.out⟩
  · rw [show s.append x b = (s, 4) by simp [DS.append, hdn, hl]]
    have HN := Lib.hid h.same
    clear h hdn hx hl hr hb hap hbl
    unfold str at hF ⊢
    go_enter Try.func13, Try.ntmps13
    go_wp2_with fail
    refine hF.mono ?_
    rintro e w1 ⟨rfl, rfl⟩
    go_wp2_with fail
    go_ret
    exact ⟨rfl, HN.out⟩
  · have hR := Lib.hid (room_any w base gd mv (pre ++ f :: post) s.room s.fuse false hd)
    have hus : usedA s.all = used (pre ++ f :: post) := by rw [hA, usedA_abs]
    have hfit := hd.fit
    have hrl := hd.room_le
    have hD : s.down = false := hdn
    by_cases hfull : s.room < used (pre ++ f :: post) + b.length
    · rw [show s.append x b = (s, 11) by simp [DS.append, hdn, hl, hus, hfull]]
      have HN := Lib.hid h
      have hlt : (s.room : Int) - (used (pre ++ f :: post) : Int) < (n : Int) := by omega
      generalize used (pre ++ f :: post) = U at *
      generalize s.room = rm at *
      clear h hdn hx hl hr hb hap hbl hd hA hL hus hD
      unfold str at hF ⊢
      go_enter Try.func13, Try.ntmps13
      go_wp2_with fail
      refine hF.mono ?_
      rintro e w1 ⟨rfl, rfl⟩
      go_wp2_with fail
      refine hR.out.mono ?_
      rintro e w1 ⟨rfl, hb1⟩
      go_wp2_with fail
      go_ret
      exact ⟨rfl, HN.out.next hb1⟩
    · have hlt : decide ((s.room : Int) - (used (pre ++ f :: post) : Int) < (n : Int)) = false := by simp; omega
      have hlt' : ¬ ((s.room : Int) - (used (pre ++ f :: post) : Int) < (n : Int)) := by omega
      have hS := fun w1 (hb1 : Below w.heap.size w w1) => step_any w1 base gd mv (pre ++ f :: post) s.room s.fuse false (hd.below hb1)
      by_cases hf1 : s.fuse = 1
      · rw [show s.append x b = (s.step, 10) by simp [DS.append, hdn, hl, hus, hfull, hf1]]
        simp only [if_pos hf1, Bool.false_or, decide_eq_true hf1] at hS
        have HN : ∀ w1 w', Below w.heap.size w w1 → Dsk w' base gd mv (pre ++ f :: post) s.room (s.fuse - 1) true → Tch w1 w' [gd] → Nxt w base gd L w' s.step := fun w1 w' hb1 h1 h2 =>
          Nxt.before hb1 ⟨L, ⟨mv, _, by simpa [DS.step, hD, hf1] using h1, by simp [DS.step, hA], hL.symm⟩, h2.more (by rw [hL]; simp [feet]), fun k hk => Or.inl hk⟩
        have HN := Lib.hid HN
        have hS := Lib.hid hS
        generalize used (pre ++ f :: post) = U at *
        clear h hdn hx hl hr hb hap hbl hd hA hL hus hD
        unfold str at hF ⊢
        go_enter Try.func13, Try.ntmps13
        go_wp2_with fail
        refine hF.mono ?_
        rintro e w1 ⟨rfl, rfl⟩
        go_wp2_with fail
        refine hR.out.mono ?_
        rintro e w1 ⟨rfl, hb1⟩
        go_wp2_with fail
        refine (hS.out w1 hb1).mono ?_
        rintro e w2 ⟨rfl, hd1, ht1⟩
        have HR := Lib.hid (HN.out w1 w2 hb1 hd1 ht1)
        clear hd1
        go_wp2_with fail
        go_ret
        exact ⟨rfl, HR.out⟩
      · rw [show s.append x b = ({ s.step with all := setA s.all x (fun f => { f with data := f.data ++ b }) }, 0) by simp [DS.append, hdn, hl, hus, hfull, hf1]]
        simp only [if_neg hf1, Bool.false_or, decide_eq_false hf1] at hS
        have HN : ∀ w1 w2 w3 v', Below w.heap.size w w1 → Dsk w2 base gd mv (pre ++ f :: post) s.room (s.fuse - 1) false → Tch w1 w2 [gd] → w2.grownBy w3 f.v.ownBlock → Buf w3 base v' (f.data.length + b.length) (bys f.data ++ bys b) → (Cold w2 f.v → Cold w3 v') →
            (v'.ownBlock = f.v.ownBlock ∨ ∀ k, v'.ownBlock = some k → w2.heap.size ≤ k) → Nxt w base gd L (w3.setCell ⟨f.blk, 0, none⟩ v') { s.step with all := setA s.all x (fun f => { f with data := f.data ++ b }) } := by
          intro w1 w2 w3 v' hb1 h1 h2 hg3 hbuf hcold hown
          refine Nxt.before hb1 ?_
          have hne := h1.self_ne
          have hfa := h1.files f (by simp)
          have hg4 := grown_setCell w3 ⟨f.blk, 0, none⟩ v'
          have hkk : ∀ k, k < w2.heap.size → k ∉ f.foot → (w3.setCell ⟨f.blk, 0, none⟩ v').heap[k]? = w2.heap[k]? := by
            intro k hk hm
            refine (hg4.block k (Nat.lt_of_lt_of_le hk hg3.size) (fun e => hm (by injection e with e; simp [File.foot, e]))).trans (hg3.block k hk (fun e => hm ?_))
            simp [File.foot, ← e]
          obtain ⟨r1, r2⟩ := h1.turn { f with v := v', data := f.data ++ b } rfl rfl hown (Nat.le_trans hg3.size hg4.size) hkk (hfa.set0 hne hg3 hbuf (hcold hfa.cold) hown hb)
            (by rw [used_split]; rw [used_split] at hfull; simp; omega) (Nat.le_trans hB (Nat.le_trans hb1.size h2.size))
          refine ⟨_, ⟨mv, _, by simpa [DS.step, hD, hf1] using r1, ?_, rfl⟩, ?_, ?_⟩
          · show _ = setA s.all x _
            rw [hA, ← hfx, abs_pair hd]
            simp [abs]
          · refine (h2.more (L1 := L) (by rw [hL]; simp [feet])).trans (L1 := f.foot) ⟨hg4.os.trans hg3.os, hg4.tape.trans hg3.tape, hg4.output.trans hg3.output, Nat.le_trans hg3.size hg4.size, hkk⟩ (fun i hi => Or.inl ?_)
            rw [hL]
            exact foot_in gd mv _ f (by simp) i hi
          · intro k hk
            rw [hL]
            exact (r2 k hk).imp id (fun h => Nat.le_trans h2.size h)
        have HN := Lib.hid HN
        have hS := Lib.hid hS
        have HRD : ∀ w1 w2, Below w.heap.size w w1 → Tch w1 w2 [gd] → Rd w2 w.heap.size A n (bys b) := by
          intro w1 w2 hb1 ht1
          refine (hr.below hb1).blk (fun g off e h0 => ht1.block g (Nat.lt_of_lt_of_le (hr.own e h0) hb1.size) (fun hm => hap g off e h0 ?_))
          rw [hL]
          simp at hm
          rw [hm]
          simp [feet]
        have HRD := Lib.hid HRD
        have hul := used_split pre post f
        have hlen : (f.data.length : Int) + (n : Int) ≤ 67108864 := by omega
        generalize used (pre ++ f :: post) = U at *
        have HBL := Lib.hid hbl
        clear h hdn hx hl hr hb hap hd hA hL hus hD hbl hul
        unfold str at hF ⊢
        go_enter Try.func13, Try.ntmps13
        go_wp2_with fail
        refine hF.mono ?_
        rintro e w1 ⟨rfl, rfl⟩
        go_wp2_with fail
        refine hR.out.mono ?_
        rintro e w1 ⟨rfl, hb1⟩
        go_wp2_with fail
        refine (hS.out w1 hb1).mono ?_
        rintro e w2 ⟨rfl, hd1, ht1⟩
        have HR := Lib.hid (HN.out w1 w2 · · hb1 hd1 ht1)
        have hfa := hd1.files f (by simp)
        have hq0 := hfa.box.c0
        have hbuf := hfa.buf
        have hrd := HRD.out w1 w2 hb1 ht1
        have hbase : base ≤ w2.heap.size := Nat.le_trans hB (Nat.le_trans hb1.size ht1.size)
        have hbx := Lib.hid hfa.box
        have hne := hd1.self_ne
        clear hd1
        go_wp2_with (at_builtin; refine wpList_append_cold _ rfl (.tmp 33) (.tmp 34) 29 rfl base 5 i0 (.int .u8 0) 1 Try.underlying29 hi hz0 hz1 hz2 rfl rfl hbuf rfl hrd (bys_one _) ?b1 ?b2 hbase ?next)
        case b1 => unfold maxLen; omega
        case b2 => omega
        case next =>
          intro v' w3 r1 r2 r3 r4
          have hbx3 := hbx.out.keep (r2.block f.blk hbx.out.lt (fun e => hne e.symm))
          have hq3 := hbx3.c0
          have hq4 := hbx3.cold 0
          have HRR := Lib.hid (HR.out w3 v' r2 (by rw [HBL.out]; exact r1) r4 r3)
          obtain ⟨A', c', ev, _, _⟩ := r1.slice
          subst ev
          clear r1 r2 r3 r4 hbuf hrd hfa hq0 hbx3
          go_wp2_with fail
          go_ret
          exact ⟨rfl, HRR.out⟩
end Go.Proofs.Ytahbhaphodgomaa
