/- Walks: Sync, Append, Size. -/
import Derived.Test.YtahbhaphodgomaaD4
namespace Go.Proofs.Ytahbhaphodgomaa
set_option linter.unusedSimpArgs false
set_option linter.unusedVariables false
open Go.RowKit Go.Maps

theorem Try.info5 : (Try.prog.info? 5).map (fun i => (i.zero, i.size, i.bytes)) = some (some (.int .u8 0), 1, 1) := by kernel_rfl
def DS.step (s : DS) : DS := { s with fuse := s.fuse - 1, down := s.down || decide (s.fuse = 1) }
def DS.sync (s : DS) (x : List UInt8) : DS × Nat :=
  if s.down then (s, 10) else match lookA s.all x with
  | none => (s, 4)
  | some _ => if s.fuse = 1 then (s.step, 10) else ({ s.step with all := setA s.all x (fun f => { f with sure := f.data.length }) }, 0)
def DS.append (s : DS) (x : List UInt8) (b : List Nat) : DS × Nat :=
  if s.down then (s, 10) else match lookA s.all x with
  | none => (s, 4)
  | some _ => if s.room < usedA s.all + b.length then (s, 11) else if s.fuse = 1 then (s.step, 10) else ({ s.step with all := setA s.all x (fun f => { f with data := f.data ++ b }) }, 0)

theorem Dsk.self_ne {w : World} {base gd : Nat} {mv : Option Nat} {pre post : List File} {f : File} {room fuse : Nat} {down : Bool} (h : Dsk w base gd mv (pre ++ f :: post) room fuse down) : f.v.ownBlock ≠ some f.blk := by
  intro e
  have hN := (feet_perm gd mv pre post f).nodup_iff.1 h.nodup
  obtain ⟨n1, n2, n3⟩ := List.nodup_append.1 hN
  exact n3 f.blk (by simp [e]) f.blk (by simp) rfl
theorem FileAt.set1 {w : World} {base : Nat} {f : File} (h : FileAt w base f) (hne : f.v.ownBlock ≠ some f.blk) (n : Nat) (hn : n ≤ f.data.length) : FileAt (w.setCell ⟨f.blk, 1, none⟩ (.int .i64 (n : Int))) base { f with sure := n } := by
  have hg := grown_setCell w ⟨f.blk, 1, none⟩ (.int .i64 (n : Int))
  have hk : ∀ k, f.v.ownBlock = some k → some k ≠ some f.blk := fun k e e2 => hne (by rw [e, e2])
  exact ⟨h.box.set1 _, h.buf.grown hg hk, h.cold.keep (fun k e => hg.block k (h.buf.lt k e).2 (hk k e)), h.bytes, hn, h.name⟩
theorem FileAt.set0 {w w1 : World} {base : Nat} {f : File} (h : FileAt w base f) (hne : f.v.ownBlock ≠ some f.blk) {v' : Value} {b : List Nat} (hg : w.grownBy w1 f.v.ownBlock) (hb : Buf w1 base v' (f.data.length + b.length) (bys f.data ++ bys b)) (hc : Cold w1 v')
    (ho : v'.ownBlock = f.v.ownBlock ∨ ∀ k, v'.ownBlock = some k → w.heap.size ≤ k) (hbb : ∀ c ∈ b, c < 256) : FileAt (w1.setCell ⟨f.blk, 0, none⟩ v') base { f with v := v', data := f.data ++ b } := by
  have hx := h.box.keep (hg.block f.blk h.box.lt (fun e => hne e.symm))
  have hg2 := grown_setCell w1 ⟨f.blk, 0, none⟩ v'
  have hk : ∀ k, v'.ownBlock = some k → some k ≠ some f.blk := fun k e e2 => by
    rcases ho with o | o
    · exact hne (by rw [← o, e, e2])
    · have h1 := o k e
      have h2 := h.box.lt
      injection e2 with e2
      omega
  refine ⟨hx.set0 _, ?_, hc.keep (fun k e => hg2.block k (hb.lt k e).2 (hk k e)), ?_, ?_, h.name⟩
  · have := hb.grown hg2 hk
    rw [← bys_app] at this
    simpa using this
  · intro c hc
    rcases List.mem_append.1 hc with h1 | h1
    · exact h.bytes c h1
    · exact hbb c h1
  · have := h.sure
    simp; omega

theorem abs_pair {w : World} {base gd : Nat} {mv : Option Nat} {pre post : List File} {f : File} {room fuse : Nat} {down : Bool} (h : Dsk w base gd mv (pre ++ f :: post) room fuse down) (g : AF → AF) :
    setA ((pre ++ f :: post).map abs) f.name g = pre.map abs ++ g (abs f) :: post.map abs := by
  rw [List.map_append, List.map_cons]
  refine setA_split _ _ (abs f) g ?_
  have := h.apart'
  rw [← List.map_cons, ← List.map_append, List.pairwise_map]
  exact this

/-- find, with what is found. -/
theorem find_cases {w : World} {base gd : Nat} {L : List Nat} {s : DS} (h : Dk w base gd L s) (x : List UInt8) (hx : x.length ≤ 1000) :
    (s.down = true ∧ Calls Try.prog 38 #[.pointer (some ⟨gd, 0, none⟩), str x] w fun e w' => e = .returned (.tuple #[.pointer none, .int .i64 10]) ∧ w = w') ∨
    (s.down = false ∧ lookA s.all x = none ∧ Calls Try.prog 38 #[.pointer (some ⟨gd, 0, none⟩), str x] w fun e w' => e = .returned (.tuple #[.pointer none, .int .i64 4]) ∧ w = w') ∨
    ∃ mv pre f post, s.down = false ∧ lookA s.all x = some (abs f) ∧ f.name = x ∧ Dsk w base gd mv (pre ++ f :: post) s.room s.fuse false ∧ s.all = (pre ++ f :: post).map abs ∧ L = feet gd mv (pre ++ f :: post) ∧
      Calls Try.prog 38 #[.pointer (some ⟨gd, 0, none⟩), str x] w fun e w' => e = .returned (.tuple #[.pointer (some ⟨f.blk, 0, none⟩), .int .i64 0]) ∧ w = w' := by
  obtain ⟨mv, fs, hd, hA, hL⟩ := h
  have hF := find_any w base gd mv fs s.room s.fuse s.down x hd hx
  cases hdn : s.down with
  | true => rw [hdn] at hF; exact Or.inl ⟨rfl, hF⟩
  | false =>
    rw [hdn] at hF hd
    cases hl : look fs x with
    | none =>
      rw [hl] at hF
      exact Or.inr (Or.inl ⟨rfl, by rw [← hA, lookA_abs, hl]; rfl, hF⟩)
    | some f =>
      rw [hl] at hF
      obtain ⟨h1, pre, post, h2⟩ := look_split hl
      subst h2
      exact Or.inr (Or.inr ⟨mv, pre, f, post, rfl, by rw [← hA, lookA_abs, hl]; rfl, h1, hd, hA.symm, hL.symm, hF⟩)

set_option maxHeartbeats 1000000 in
set_option maxRecDepth 100000 in
theorem sync_any (w : World) (base gd : Nat) (L : List Nat) (s : DS) (x : List UInt8) (h : Dk w base gd L s) (hx : x.length ≤ 1000) (hB : base ≤ w.heap.size) :
    Calls Try.prog 14 #[.pointer (some ⟨gd, 0, none⟩), str x] w fun e w' => e = .returned (.int .i64 ((s.sync x).2 : Int)) ∧ Nxt w base gd L w' (s.sync x).1 := by
  rcases find_cases h x hx with ⟨hdn, hF⟩ | ⟨hdn, hl, hF⟩ | ⟨mv, pre, f, post, hdn, hl, hfx, hd, hA, hL, hF⟩
  · rw [show s.sync x = (s, 10) by simp [DS.sync, hdn]]
    have HN := Lib.hid h.same
    clear h hdn hx
    unfold str at hF ⊢
    go_enter Try.func14, Try.ntmps14
    go_wp2_with fail
    refine hF.mono ?_
    rintro e w1 ⟨rfl, rfl⟩
    go_wp2_with fail
    go_ret
    exact ⟨rfl, HN.out⟩
  · rw [show s.sync x = (s, 4) by simp [DS.sync, hdn, hl]]
    have HN := Lib.hid h.same
    clear h hdn hx hl
    unfold str at hF ⊢
    go_enter Try.func14, Try.ntmps14
    go_wp2_with fail
    refine hF.mono ?_
    rintro e w1 ⟨rfl, rfl⟩
    go_wp2_with fail
    go_ret
    exact ⟨rfl, HN.out⟩
  · have hS := step_any w base gd mv (pre ++ f :: post) s.room s.fuse false hd
    have hlow := hd.low
    obtain ⟨A, c, ev, hc, _⟩ := (hd.files f (by simp)).buf.slice
    have hcm := ((hd.files f (by simp)).buf)
    rw [ev] at hcm
    have hcm := hcm.cap_le
    unfold maxLen at hcm
    have hD : s.down = false := hdn
    by_cases hf1 : s.fuse = 1
    · rw [show s.sync x = (s.step, 10) by simp [DS.sync, hdn, hl, hf1]]
      rw [if_pos hf1, Bool.false_or, decide_eq_true hf1] at hS
      have HN : ∀ w', Dsk w' base gd mv (pre ++ f :: post) s.room (s.fuse - 1) true → Tch w w' [gd] → Nxt w base gd L w' s.step := fun w' h1 h2 =>
        ⟨L, ⟨mv, _, by simpa [DS.step, hD, hf1] using h1, by simp [DS.step, hA], hL.symm⟩, h2.more (by rw [hL]; simp [feet]), fun k hk => Or.inl hk⟩
      have HN := Lib.hid HN
      have hS := Lib.hid hS
      clear hd h hx hlow hA hL hl hdn ev hc hcm hD
      unfold str at hF ⊢
      go_enter Try.func14, Try.ntmps14
      go_wp2_with fail
      refine hF.mono ?_
      rintro e w1 ⟨rfl, rfl⟩
      go_wp2_with fail
      refine hS.out.mono ?_
      rintro e w1 ⟨rfl, hd1, ht1⟩
      have HR := Lib.hid (HN.out w1 hd1 ht1)
      clear hd1
      go_wp2_with fail
      go_ret
      exact ⟨rfl, HR.out⟩
    · rw [show s.sync x = ({ s.step with all := setA s.all x (fun f => { f with sure := f.data.length }) }, 0) by simp [DS.sync, hdn, hl, hf1]]
      rw [if_neg hf1, Bool.false_or, decide_eq_false hf1] at hS
      have HN : ∀ w1, Dsk w1 base gd mv (pre ++ f :: post) s.room (s.fuse - 1) false → Tch w w1 [gd] → Nxt w base gd L (w1.setCell ⟨f.blk, 1, none⟩ (.int .i64 (f.data.length : Int))) { s.step with all := setA s.all x (fun f => { f with sure := f.data.length }) } := by
        intro w1 h1 h2
        have hne := h1.self_ne
        have hg := grown_setCell w1 ⟨f.blk, 1, none⟩ (.int .i64 (f.data.length : Int))
        obtain ⟨r1, r2⟩ := h1.turn { f with sure := f.data.length } rfl rfl (Or.inl rfl) hg.size (fun k hk hn => hg.block k hk (fun e => hn (by injection e with e; simp [File.foot, e]))) ((h1.files f (by simp)).set1 hne _ (Nat.le_refl _)) (by have := h1.fit; simpa [used] using this) (Nat.le_trans hB h2.size)
        refine ⟨_, ⟨mv, _, by simpa [DS.step, hD, hf1] using r1, ?_, rfl⟩, ?_, ?_⟩
        · show _ = setA s.all x _
          rw [hA, ← hfx, abs_pair hd]
          simp [abs]
        · refine (h2.more (by rw [hL]; simp [feet])).trans (Tch.of_grown (L := L) hg (fun k e => ?_)) (fun i hi => Or.inl hi)
          injection e with e
          rw [hL, ← e]
          exact foot_in gd mv _ f (by simp) _ (by simp [File.foot])
        · intro k hk
          rw [hL]
          exact (r2 k hk).imp id (fun h => Nat.le_trans h2.size h)
      have HN := Lib.hid HN
      have hS := Lib.hid hS
      clear h hx hlow hA hL hl hdn hD hd
      unfold str at hF ⊢
      go_enter Try.func14, Try.ntmps14
      go_wp2_with fail
      refine hF.mono ?_
      rintro e w1 ⟨rfl, rfl⟩
      go_wp2_with fail
      refine hS.out.mono ?_
      rintro e w1 ⟨rfl, hd1, ht1⟩
      have HR := Lib.hid (HN.out w1 hd1 ht1)
      have hbx := (hd1.files f (by simp)).box
      have hq0 := hbx.c0
      have hq1 := hbx.c1
      have hq2 := hbx.cold 1
      rw [ev] at hq0
      clear hd1 hbx
      go_wp2_with fail
      go_ret
      exact ⟨rfl, HR.out⟩
end Go.Proofs.Ytahbhaphodgomaa
