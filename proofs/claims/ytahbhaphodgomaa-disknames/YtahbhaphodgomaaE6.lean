/- Walks: Size, List, Down, Fuse, Remove. -/
import Derived.Test.YtahbhaphodgomaaE5
namespace Go.Proofs.Ytahbhaphodgomaa
set_option linter.unusedSimpArgs false
set_option linter.unusedVariables false
open Go.RowKit Go.Maps

def DS.size (s : DS) (x : List UInt8) : Nat × Nat := if s.down then (0, 10) else match lookA s.all x with | none => (0, 4) | some f => (f.data.length, 0)
set_option maxHeartbeats 1000000 in
set_option maxRecDepth 100000 in
theorem size_any (w : World) (base gd : Nat) (L : List Nat) (s : DS) (x : List UInt8) (h : Dk w base gd L s) (hx : x.length ≤ 1000) :
    Calls Try.prog 25 #[.pointer (some ⟨gd, 0, none⟩), str x] w fun e w' => e = .returned (.tuple #[.int .i64 ((s.size x).1 : Int), .int .i64 ((s.size x).2 : Int)]) ∧ w = w' := by
  rcases find_cases h x hx with ⟨hdn, hF⟩ | ⟨hdn, hl, hF⟩ | ⟨mv, pre, f, post, hdn, hl, hfx, hd, hA, hL, hF⟩
  · rw [show s.size x = (0, 10) by simp [DS.size, hdn]]
    clear h hdn hx
    unfold str at hF ⊢
    go_enter Try.func25, Try.ntmps25
    go_wp2_with fail
    refine hF.mono ?_
    rintro e w1 ⟨rfl, rfl⟩
    go_wp2_with fail
    go_ret2
    exact ⟨rfl, rfl⟩
  · rw [show s.size x = (0, 4) by simp [DS.size, hdn, hl]]
    clear h hdn hx hl
    unfold str at hF ⊢
    go_enter Try.func25, Try.ntmps25
    go_wp2_with fail
    refine hF.mono ?_
    rintro e w1 ⟨rfl, rfl⟩
    go_wp2_with fail
    go_ret2
    exact ⟨rfl, rfl⟩
  · rw [show s.size x = (f.data.length, 0) by simp [DS.size, hdn, hl, abs]]
    have hfa := hd.files f (by simp)
    have hq0 := hfa.box.c0
    obtain ⟨A, c, ev, hc, hrd⟩ := hfa.buf.slice
    rw [ev] at hq0
    clear hd hl hA hL h hfa ev hdn hx hfx hrd
    unfold str at hF ⊢
    go_enter Try.func25, Try.ntmps25
    go_wp2_with fail
    refine hF.mono ?_
    rintro e w1 ⟨rfl, rfl⟩
    go_wp2_with fail
    go_ret2
    exact ⟨rfl, rfl⟩

set_option maxHeartbeats 1000000 in
set_option maxRecDepth 100000 in
theorem list_any (w : World) (base gd : Nat) (L : List Nat) (s : DS) (h : Dk w base gd L s) (hlen : s.all.length ≤ 1000000) :
    Calls Try.prog 27 #[.pointer (some ⟨gd, 0, none⟩)] w fun e w' => ∃ v, e = .returned v ∧ Buf w' w.heap.size v (if s.down then 0 else s.all.length) (if s.down then [] else s.all.map fun f => encStr f.name) ∧ Below w.heap.size w w' := by
  obtain ⟨mv, fs, hd, hA, hL⟩ := h
  have hc3 := hd.box.c3
  have hfl : fs.length ≤ 1000000 := by rw [← hA, List.length_map] at hlen; exact hlen
  have HN := Lib.hid (names_any w base gd mv fs _ _ _ hd hfl)
  have HA := Lib.hid hA
  clear hd hA hlen hfl
  cases hdn : s.down with
  | true =>
    rw [hdn] at hc3
    rw [if_pos rfl, if_pos rfl]
    clear hdn
    go_enter Try.func27, Try.ntmps27
    go_wp2_with fail
    go_ret
    exact ⟨_, rfl, Buf.nil _ _, Below.refl _ _⟩
  | false =>
    rw [hdn] at hc3
    rw [if_neg (by decide), if_neg (by decide)]
    clear hdn
    go_enter Try.func27, Try.ntmps27
    go_wp2_with fail
    refine HN.out.mono ?_
    rintro e w1 ⟨g, cap, rfl, _, _, hb, hbl⟩
    have HB := Lib.hid hb
    clear hb
    go_wp2_with fail
    go_ret
    refine ⟨_, rfl, ?_, hbl⟩
    have e1 : s.all.length = fs.length := by rw [← HA.out, List.length_map]
    have e2 : (s.all.map fun f => encStr f.name) = fs.map fun f => encStr f.name := by rw [← HA.out, List.map_map]; rfl
    rw [e1, e2]
    exact HB.out

set_option maxHeartbeats 400000 in
theorem down_any (w : World) (base gd : Nat) (L : List Nat) (s : DS) (h : Dk w base gd L s) : Calls Try.prog 30 #[.pointer (some ⟨gd, 0, none⟩)] w fun e w' => e = .returned (.bool s.down) ∧ w = w' := by
  obtain ⟨mv, fs, hd, hA, hL⟩ := h
  have hc3 := hd.box.c3
  generalize s.down = b at *
  clear hd
  go_enter Try.func30, Try.ntmps30
  go_wp2_with fail
  go_ret
  exact ⟨rfl, rfl⟩

def DS.setFuse (s : DS) (n : Int) : DS := if s.down then s else { s with fuse := n.toNat }
set_option maxHeartbeats 400000 in
theorem fuse_any (w : World) (base gd : Nat) (L : List Nat) (s : DS) (n : Int) (h : Dk w base gd L s) (hn : -9223372036854775808 ≤ n ∧ n ≤ 9223372036854775807) :
    Calls Try.prog 19 #[.pointer (some ⟨gd, 0, none⟩), .int .i64 n] w fun e w' => e = .returned (.tuple #[]) ∧ Nxt w base gd L w' (s.setFuse n) := by
  have HH := Lib.hid h
  obtain ⟨mv, fs, hd, hA, hL⟩ := h
  have hc3 := hd.box.c3
  cases hdn : s.down with
  | true =>
    rw [hdn] at hc3
    have HN : Nxt w base gd L w (s.setFuse n) := by rw [show s.setFuse n = s by simp [DS.setFuse, hdn]]; exact HH.out.same
    have HN := Lib.hid HN
    clear hd hdn
    go_enter Try.func19, Try.ntmps19
    go_wp2_with fail
    (try simp only [Exit.inBlock, Exit.then])
    refine bodyPost_ret (results_none rfl _ _ _) rfl ?_
    exact ⟨rfl, HN.out⟩
  | false =>
    rw [hdn] at hc3
    have hc2 := hd.box.c2
    have hf2 := hd.box.cold 2
    have HN : ∀ N : Nat, (N : Int) = max n 0 → Nxt w base gd L (w.setCell ⟨gd, 2, none⟩ (.int .i64 (N : Int))) (s.setFuse n) := by
      intro N hNe
      have hb := hd.box.set2 (.int .i64 (N : Int))
      have hg := grown_setCell w ⟨gd, 2, none⟩ (.int .i64 (N : Int))
      have ht : Tch w (w.setCell ⟨gd, 2, none⟩ (.int .i64 (N : Int))) [gd] := Tch.of_grown hg (by intro k e; injection e with e; exact List.mem_singleton.2 e.symm)
      have hd2 := hd.boxed hb hg.size (fun k hm hne => ht.block k (hd.low k hm).2 (by simpa using hne)) (by omega)
      have hN2 : N = n.toNat := by omega
      refine ⟨L, ⟨mv, fs, by simpa [DS.setFuse, hdn, hN2] using hd2, by simp [DS.setFuse, hdn, hA], hL⟩, ht.more (by rw [← hL]; simp [feet]), fun k hk => Or.inl hk⟩
    have HN := Lib.hid HN
    clear hd hdn HH
    by_cases h0 : n < 0
    · have HR := HN.out 0 (by omega)
      rw [show ((0 : Nat) : Int) = max n 0 by omega] at HR
      have HR := Lib.hid HR
      go_enter Try.func19, Try.ntmps19
      go_wp2_with fail
      go_end0
      exact ⟨rfl, HR.out⟩
    · obtain ⟨N, rfl⟩ : ∃ N : Nat, n = N := ⟨n.toNat, by omega⟩
      have h0' : (0 : Int) ≤ (N : Int) := by omega
      have HR := Lib.hid (HN.out N (by omega))
      go_enter Try.func19, Try.ntmps19
      go_wp2_with fail
      go_end0
      exact ⟨rfl, HR.out⟩

/-! Remove -/
def delA (A : List AF) (x : List UInt8) : List AF := A.filter fun f => !(f.name == x)
def DS.remove (s : DS) (x : List UInt8) : DS × Nat :=
  if s.down then (s, 10) else match lookA s.all x with
  | none => (s, 4)
  | some _ => if s.fuse = 1 then (s.step, 10) else ({ s.step with all := delA s.all x }, 0)
theorem del_split {α : Type} (nm : α → List UInt8) (pre post : List α) (f : α) (hp : (pre ++ f :: post).Pairwise (fun a b => nm a ≠ nm b)) : ((pre ++ f :: post).filter fun a => !(nm a == nm f)) = pre ++ post := by
  obtain ⟨h1, h2, h3⟩ := List.pairwise_append.1 hp
  obtain ⟨h4, h5⟩ := List.pairwise_cons.1 h2
  rw [List.filter_append, List.filter_cons_of_neg (by simp), List.filter_eq_self.2, List.filter_eq_self.2]
  · intro a ha
    have := h4 a ha
    simp
    exact fun e => this e.symm
  · intro a ha
    have := h3 a ha f (by simp)
    simpa using this
theorem Dsk.removed {w w2 : World} {base gd bm : Nat} {pre post : List File} {f : File} {room fuse : Nat} {down : Bool} (h : Dsk w base gd (some bm) (pre ++ f :: post) room fuse down)
    (hown : w2.ownsMap Try.prog 9 RP bm (pre ++ f :: post).length ((DataW.map ((pre ++ f :: post).map ent)).del (.string f.name))) (hg : w.grownBy w2 (some bm)) :
    Dsk w2 base gd (some bm) (pre ++ post) room fuse down ∧ (∀ k ∈ feet gd (some bm) (pre ++ post), k ∈ feet gd (some bm) (pre ++ f :: post)) ∧ FileAt w2 base f ∧ ∀ k ∈ f.foot, k ∉ feet gd (some bm) (pre ++ post) := by
  have hp := feet_perm gd (some bm) pre post f
  have hN := hp.nodup_iff.1 h.nodup
  obtain ⟨n1, n2, n3⟩ := List.nodup_append.1 hN
  have hsub : ∀ k ∈ feet gd (some bm) (pre ++ post), k ∈ feet gd (some bm) (pre ++ f :: post) := fun k hk => hp.mem_iff.2 (List.mem_append_right _ (List.mem_cons_of_mem _ hk))
  have hN0 := h.nodup
  obtain ⟨m1, m2⟩ := List.nodup_cons.1 hN0
  have hgd : gd ≠ bm := fun e => m1 (by rw [e]; simp)
  have m3 : bm ∉ (pre ++ f :: post).flatMap File.foot := (List.nodup_cons.1 (by simpa using m2)).1
  have hkeep : ∀ g ∈ pre ++ f :: post, FileAt w2 base g := fun g hgm => (h.files g hgm).keep hg.size (fun k hm => hg.block k (h.low k (foot_in gd _ _ g hgm k hm)).2 (fun e => m3 (List.mem_flatMap.2 ⟨g, hgm, by injection e with e; rw [← e]; exact hm⟩)))
  have hin : ∀ g ∈ pre ++ post, g ∈ pre ++ f :: post := by
    intro g hg'
    rcases List.mem_append.1 hg' with h1 | h1
    · exact List.mem_append_left _ h1
    · exact List.mem_append_right _ (List.mem_cons_of_mem _ h1)
  refine ⟨⟨h.box.keep (hg.block gd (h.low gd (by simp [feet])).2 (fun e => hgd (by injection e))), by simp, ?_, fun g hg' => hkeep g (hin g hg'), (List.nodup_cons.1 n2).2, fun k hk => ⟨(h.low k (hsub k hk)).1, Nat.lt_of_lt_of_le (h.low k (hsub k hk)).2 hg.size⟩, ?_, h.room_le, h.fuse_le⟩, hsub, hkeep f (by simp), ?_⟩
  · intro bm' e
    injection e with e
    subst e
    have e1 : (DataW.map ((pre ++ f :: post).map ent)).del (.string f.name) = .map ((pre ++ post).map ent) := by
      simp only [DataW.del]
      congr 1
      rw [List.filter_map]
      have : ((fun p : Lit × DataW Unit => !p.1.sameKey (.string f.name)) ∘ ent) = (fun g : File => !(g.name == f.name)) := by funext g; rfl
      rw [this, del_split File.name pre post f h.apart']
    rw [e1] at hown
    have := owns_tight hown
    rwa [List.length_map] at this
  · have := h.fit
    rw [used_split] at this
    omega
  · intro k hk hm
    rcases List.mem_cons.1 hk with rfl | hk
    · exact (List.nodup_cons.1 n2).1 hm
    · exact n3 k hk k (List.mem_cons_of_mem _ hm) rfl
theorem delA_abs {w : World} {base gd : Nat} {mv : Option Nat} {pre post : List File} {f : File} {room fuse : Nat} {down : Bool} (h : Dsk w base gd mv (pre ++ f :: post) room fuse down) : delA ((pre ++ f :: post).map abs) f.name = (pre ++ post).map abs := by
  unfold delA
  rw [List.filter_map]
  have : ((fun a : AF => !(a.name == f.name)) ∘ abs) = (fun g : File => !(g.name == f.name)) := by funext g; rfl
  rw [this, del_split File.name pre post f h.apart']

set_option maxHeartbeats 1000000 in
set_option maxRecDepth 100000 in
theorem remove_any (w : World) (base gd : Nat) (L : List Nat) (s : DS) (x : List UInt8) (h : Dk w base gd L s) (hx : x.length ≤ 1000) (hB : base ≤ w.heap.size) :
    Calls Try.prog 16 #[.pointer (some ⟨gd, 0, none⟩), str x] w fun e w' => e = .returned (.int .i64 ((s.remove x).2 : Int)) ∧ Nxt w base gd L w' (s.remove x).1 := by
  rcases find_cases h x hx with ⟨hdn, hF⟩ | ⟨hdn, hl, hF⟩ | ⟨mv, pre, f, post, hdn, hl, hfx, hd, hA, hL, hF⟩
  · rw [show s.remove x = (s, 10) by simp [DS.remove, hdn]]
    have HN := Lib.hid h.same
    clear h hdn hx
    unfold str at hF ⊢
    go_enter Try.func16, Try.ntmps16
    go_wp2_with fail
    refine hF.mono ?_
    rintro e w1 ⟨rfl, rfl⟩
    go_wp2_with fail
    go_ret
    exact ⟨rfl, HN.out⟩
  · rw [show s.remove x = (s, 4) by simp [DS.remove, hdn, hl]]
    have HN := Lib.hid h.same
    clear h hdn hx hl
    unfold str at hF ⊢
    go_enter Try.func16, Try.ntmps16
    go_wp2_with fail
    refine hF.mono ?_
    rintro e w1 ⟨rfl, rfl⟩
    go_wp2_with fail
    go_ret
    exact ⟨rfl, HN.out⟩
  · have hS := step_any w base gd mv (pre ++ f :: post) s.room s.fuse false hd
    have hD : s.down = false := hdn
    by_cases hf1 : s.fuse = 1
    · rw [show s.remove x = (s.step, 10) by simp [DS.remove, hdn, hl, hf1]]
      rw [if_pos hf1, Bool.false_or, decide_eq_true hf1] at hS
      have HN : ∀ w', Dsk w' base gd mv (pre ++ f :: post) s.room (s.fuse - 1) true → Tch w w' [gd] → Nxt w base gd L w' s.step := fun w' h1 h2 =>
        ⟨L, ⟨mv, _, by simpa [DS.step, hD, hf1] using h1, by simp [DS.step, hA], hL.symm⟩, h2.more (by rw [hL]; simp [feet]), fun k hk => Or.inl hk⟩
      have HN := Lib.hid HN
      have hS := Lib.hid hS
      clear hd h hx hA hL hl hdn hD
      unfold str at hF ⊢
      go_enter Try.func16, Try.ntmps16
      go_wp2_with fail
      refine hF.mono ?_
      rintro e w1 ⟨rfl, rfl⟩
      go_wp2_with fail
      refine hS.out.mono ?_
      rintro e w1 ⟨rfl, hd1, ht1⟩
      have HR := Lib.hid (HN.out w1 hd1 ht1)
      clear hd1
      go_wp2_with fail
      go_ret
      exact ⟨rfl, HR.out⟩
    · rw [show s.remove x = ({ s.step with all := delA s.all x }, 0) by simp [DS.remove, hdn, hl, hf1]]
      rw [if_neg hf1, Bool.false_or, decide_eq_false hf1] at hS
      have hmv : ∃ bm, mv = some bm := by
        cases mv with
        | none => have := hd.none_ rfl; simp at this
        | some bm => exact ⟨bm, rfl⟩
      obtain ⟨bm, rfl⟩ := hmv
      have hkey := key_str x hx
      have HN : ∀ w1 w2, Dsk w1 base gd (some bm) (pre ++ f :: post) s.room (s.fuse - 1) false → Tch w w1 [gd] → w2.ownsMap Try.prog 9 RP bm (pre ++ f :: post).length ((DataW.map ((pre ++ f :: post).map ent)).del (.string x)) → w1.mapTurned w2 bm → Nxt w base gd L w2 { s.step with all := delA s.all x } := by
        intro w1 w2 h1 h2 hown htn
        rw [← hfx] at hown
        obtain ⟨r1, r2, _, _⟩ := h1.removed hown htn.grown
        refine ⟨_, ⟨some bm, _, by simpa [DS.step, hD, hf1] using r1, ?_, rfl⟩, ?_, fun k hk => Or.inl (by rw [hL]; exact r2 k hk)⟩
        · show _ = delA s.all x
          rw [hA, ← hfx, delA_abs hd]
        · refine (h2.more (L1 := L) (by rw [hL]; simp [feet])).trans (Tch.of_grown (L := L) htn.grown (fun k e => ?_)) (fun i hi => Or.inl hi)
          injection e with e
          rw [hL, ← e]; simp [feet]
      have HN := Lib.hid HN
      have hS := Lib.hid hS
      clear h hx hA hL hl hdn hD hd hfx
      obtain ⟨D, HDD⟩ : ∃ D, Hid (DataW.map ((pre ++ f :: post).map ent) = D) := ⟨_, Lib.hid rfl⟩
      obtain ⟨NN, HNN⟩ : ∃ NN, Hid ((pre ++ f :: post).length = NN) := ⟨_, Lib.hid rfl⟩
      rw [HDD.out, HNN.out] at HN
      unfold str at hF hkey ⊢
      go_enter Try.func16, Try.ntmps16
      go_wp2_with fail
      refine hF.mono ?_
      rintro e w1 ⟨rfl, rfl⟩
      go_wp2_with fail
      refine hS.out.mono ?_
      rintro e w1 ⟨rfl, hd1, ht1⟩
      have hown := hd1.map bm rfl
      rw [HDD.out, HNN.out] at hown
      have hc1 := hd1.box.c1
      have HR := Lib.hid (HN.out w1 · hd1 ht1)
      clear hd1
      go_wp2_with (first
        | (at_delete; refine wpList_delete_own _ rfl _ _ 62 9 rfl 69 law Try.underlying62 _ bm _ _ rfl hown _ _ rfl hkey ?next)
        | fail)
      case next =>
        intro w2 hown2 hturn2
        have HRR := Lib.hid (HR.out w2 hown2 hturn2)
        clear hown2 hturn2
        go_wp2_with fail
        go_ret
        exact ⟨rfl, HRR.out⟩
end Go.Proofs.Ytahbhaphodgomaa
