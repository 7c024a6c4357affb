/- Walks: New, Create. -/
import Derived.Test.YtahbhaphodgomaaD7
namespace Go.Proofs.Ytahbhaphodgomaa
set_option linter.unusedSimpArgs false
set_option linter.unusedVariables false
open Go.RowKit Go.Maps

def clamp (r : Int) : Nat := if r < 0 then 0 else if 67108864 < r then 67108864 else r.toNat
theorem Dk.new (w : World) (R : Nat) (hR : (R : Int) ≤ 67108864) (base : Nat) (hB : base ≤ w.heap.size) : Dk (w.alloc (.cells #[.int .i64 (R : Int), .map none, .int .i64 0, .bool false] 64)) base w.heap.size [w.heap.size] ⟨[], R, 0, false⟩ := by
  refine ⟨none, [], ⟨Bx4.new w _ _ _ _ 64, fun _ => rfl, (by simp), (by simp), (by simp [feet]), (by simp [feet]; omega), (by simp [used]), hR, (by show ((0 : Nat) : Int) ≤ 9223372036854775807; decide)⟩, rfl, rfl⟩
set_option maxHeartbeats 400000 in
theorem new_any (r : Int) (w : World) (hr : -9223372036854775808 ≤ r ∧ r ≤ 9223372036854775807) (base : Nat) (hB : base ≤ w.heap.size) :
    Calls Try.prog 10 #[.int .i64 r] w fun e w' => e = .returned (.pointer (some ⟨w.heap.size, 0, none⟩)) ∧ Dk w' base w.heap.size [w.heap.size] ⟨[], clamp r, 0, false⟩ ∧ Below w.heap.size w w' := by
  have hD := Lib.hid (Dk.new w (clamp r) (by unfold clamp; split; omega; split <;> omega) base hB)
  have hba := Lib.hid ((Below.refl w.heap.size w).alloc (Nat.le_refl _) (.cells #[.int .i64 (clamp r : Int), .map none, .int .i64 0, .bool false] 64))
  by_cases h1 : r < 0
  · have hc : clamp r = 0 := by unfold clamp; rw [if_pos h1]
    rw [hc] at hD hba ⊢
    have h2 : max r 0 = 0 := by omega
    go_enter Try.func10, Try.ntmps10
    go_wp2_with fail
    go_ret
    exact ⟨rfl, hD.out, hba.out⟩
  · by_cases h3 : 67108864 < r
    · have hc : clamp r = 67108864 := by unfold clamp; rw [if_neg h1, if_pos h3]
      rw [hc] at hD hba ⊢
      have h2 : max r 0 = r := by omega
      have h4 : min r 67108864 = 67108864 := by omega
      go_enter Try.func10, Try.ntmps10
      go_wp2_with fail
      go_ret
      exact ⟨rfl, hD.out, hba.out⟩
    · have hc : ((clamp r : Nat) : Int) = r := by unfold clamp; rw [if_neg h1, if_neg h3]; omega
      have h2 : max r 0 = r := by omega
      have h4 : min r 67108864 = r := by omega
      generalize clamp r = R at *
      subst hc
      go_enter Try.func10, Try.ntmps10
      go_wp2_with fail
      go_ret
      exact ⟨rfl, hD.out, hba.out⟩

def insA (f : AF) : List AF → List AF
  | [] => [f]
  | g :: r => if bytesBefore f.name g.name then f :: g :: r else g :: insA f r
def ins (f : File) : List File → List File
  | [] => [f]
  | g :: r => if bytesBefore f.name g.name then f :: g :: r else g :: ins f r
theorem ins_abs (f : File) : ∀ fs : List File, (ins f fs).map abs = insA (abs f) (fs.map abs)
  | [] => rfl
  | g :: r => by
    have := ins_abs f r
    simp only [ins, insA, List.map_cons]
    show List.map abs (if bytesBefore f.name g.name then _ else _) = if bytesBefore f.name g.name then _ else _
    split
    · rfl
    · simp [this]
theorem ins_ent (f : File) : ∀ fs : List File, (ins f fs).map ent = DataW.insert (ent f) (fs.map ent)
  | [] => rfl
  | g :: r => by
    have := ins_ent f r
    simp only [ins, DataW.insert, List.map_cons]
    show List.map ent (if bytesBefore f.name g.name then _ else _) = if bytesBefore f.name g.name then _ else _
    split
    · rfl
    · simp [this]
theorem ins_perm (f : File) : ∀ fs : List File, (ins f fs).Perm (f :: fs)
  | [] => List.Perm.refl _
  | g :: r => by
    rw [ins]
    split
    · exact List.Perm.refl _
    · exact ((ins_perm f r).cons g).trans (List.Perm.swap f g r)
def DS.create (s : DS) (x : List UInt8) : DS × Nat :=
  if named x = false then (s, 1) else if s.down then (s, 10) else match lookA s.all x with
  | some _ => (s, 5)
  | none => if s.fuse = 1 then (s.step, 10) else ({ s.step with all := insA ⟨x, [], 0⟩ s.all }, 0)

/-- A new file in the map. -/
theorem Dsk.added {w w2 : World} {base gd bm : Nat} {fs : List File} {room fuse : Nat} {down : Bool} (h : Dsk w base gd (some bm) fs room fuse down) (x : List UInt8) (hx : x.length ≤ 1000) (hl : look fs x = none)
    (hown : w2.ownsMap Try.prog 9 RP bm (fs.length + 1) ((DataW.map (fs.map ent)).put (.string x) (.lit (.int .u64 (w.heap.size : Int))))) (hg : (w.alloc (.cells #[.slice none 0 0, .int .i64 0] 72)).grownBy w2 (some bm)) (hB : base ≤ w.heap.size) :
    Dsk w2 base gd (some bm) (ins ⟨x, w.heap.size, .slice none 0 0, [], 0⟩ fs) room fuse down ∧ Tch w w2 [bm] ∧ ∀ k ∈ feet gd (some bm) (ins ⟨x, w.heap.size, .slice none 0 0, [], 0⟩ fs), k ∈ feet gd (some bm) fs ∨ w.heap.size ≤ k := by
  have hs1 : (w.alloc (.cells #[.slice none 0 0, .int .i64 0] 72)).heap.size = w.heap.size + 1 := by simp
  have hsz := hg.size
  have hbm := (h.low bm (by simp [feet])).2
  have hk : ∀ k, k < w.heap.size → k ≠ bm → w2.heap[k]? = w.heap[k]? := fun k hk hne => (hg.block k (by omega) (fun e => hne (by injection e))).trans (Below.heap_alloc w _ k hk)
  have hN := h.nodup
  obtain ⟨n1, n2⟩ := List.nodup_cons.1 hN
  have hgd : gd ≠ bm := fun e => n1 (by rw [e]; simp)
  have n3 : bm ∉ fs.flatMap File.foot := (List.nodup_cons.1 (by simpa using n2)).1
  have hp : (feet gd (some bm) (ins ⟨x, w.heap.size, .slice none 0 0, [], 0⟩ fs)).Perm (w.heap.size :: feet gd (some bm) fs) := by
    have h1 := (ins_perm ⟨x, w.heap.size, .slice none 0 0, [], 0⟩ fs).flatMap_right File.foot
    rw [List.perm_iff_count] at h1 ⊢
    intro a
    have := h1 a
    simp only [feet, List.count_cons, List.count_append, List.flatMap_cons] at this ⊢
    simp only [this]
    simp [File.foot, Value.ownBlock, List.count_cons]
    omega
  have hnf : ∀ f ∈ fs, f.name ≠ x := by
    intro f hf e
    have := List.find?_eq_none.1 hl f hf
    simp [e] at this
  refine ⟨⟨h.box.keep (hk gd (h.low gd (by simp [feet])).2 hgd), by simp, ?_, ?_, ?_, ?_, ?_, h.room_le, h.fuse_le⟩, ?_, ?_⟩
  · intro bm' e
    injection e with e
    subst e
    have e1 : (DataW.map (fs.map ent)).put (.string x) (.lit (.int .u64 (w.heap.size : Int))) = .map ((ins ⟨x, w.heap.size, .slice none 0 0, [], 0⟩ fs).map ent) := by
      rw [ins_ent]
      simp only [DataW.put]
      congr 1
      rw [List.filter_eq_self.2]
      · rfl
      · intro p hp
        obtain ⟨f, hf, rfl⟩ := List.mem_map.1 hp
        simp [ent, Lit.sameKey, hnf f hf]
    rw [e1] at hown
    have := owns_tight hown
    rwa [List.length_map] at this
  · intro f hf
    rcases List.mem_cons.1 ((ins_perm _ fs).mem_iff.1 hf) with rfl | hf
    · exact ⟨(Bx2.new w _ _ 72).keep (hg.block w.heap.size (by omega) (fun e => by injection e with e; omega)), Buf.nil _ _, (fun k e => by simp [Value.ownBlock] at e), (by simp), (by simp), hx⟩
    · exact (h.files f hf).keep (by omega) (fun k hm => hk k (h.low k (foot_in gd _ fs f hf k hm)).2 (fun e => n3 (List.mem_flatMap.2 ⟨f, hf, e ▸ hm⟩)))
  · rw [hp.nodup_iff, List.nodup_cons]
    exact ⟨fun hm => by have := (h.low _ hm).2; omega, hN⟩
  · intro k hm
    rcases List.mem_cons.1 (hp.mem_iff.1 hm) with rfl | hm
    · exact ⟨hB, by omega⟩
    · have := h.low k hm
      exact ⟨this.1, by omega⟩
  · have := h.fit
    have e2 : used (ins ⟨x, w.heap.size, .slice none 0 0, [], 0⟩ fs) = used fs := by
      have h1 := ((ins_perm ⟨x, w.heap.size, .slice none 0 0, [], 0⟩ fs).map (fun f => f.data.length)).sum_nat
      simpa [used] using h1
    omega
  · refine ⟨hg.os, hg.tape, hg.output, by omega, fun k hk' hm => hk k hk' (by simpa using hm)⟩
  · intro k hm
    rcases List.mem_cons.1 (hp.mem_iff.1 hm) with rfl | hm
    · exact Or.inr (Nat.le_refl _)
    · exact Or.inl hm
/-- The map is made. -/
theorem Dsk.mapped {w : World} {base gd : Nat} {fs : List File} {room fuse : Nat} {down : Bool} (h : Dsk w base gd none fs room fuse down) (hB : base ≤ w.heap.size) :
    Dsk ((w.alloc (.map #[] 0)).setCell ⟨gd, 1, none⟩ (.map (some w.heap.size))) base gd (some w.heap.size) fs room fuse down ∧ Tch w ((w.alloc (.map #[] 0)).setCell ⟨gd, 1, none⟩ (.map (some w.heap.size))) [gd] := by
  have hfs := h.none_ rfl
  subst hfs
  have hgd := (h.low gd (by simp [feet])).2
  have hg := grown_setCell (w.alloc (.map #[] 0)) ⟨gd, 1, none⟩ (.map (some w.heap.size))
  have hs1 : (w.alloc (.map #[] 0)).heap.size = w.heap.size + 1 := by simp
  have hsz := hg.size
  refine ⟨⟨(h.box.keep (Below.heap_alloc w _ gd hgd)).set1 _, by simp, ?_, by simp, ?_, ?_, h.fit, h.room_le, h.fuse_le⟩, ?_⟩
  · intro bm e
    injection e with e
    subst e
    exact owns_keep (World.ownsMap_made w Try.prog 9 RP) (hg.block _ (by omega) (fun e => by injection e with e; simp at e; omega))
  · simp [feet]; omega
  · intro k hm
    simp [feet] at hm
    have := h.low gd (by simp [feet])
    rcases hm with rfl | rfl
    · exact ⟨this.1, by omega⟩
    · exact ⟨hB, by omega⟩
  · refine ⟨hg.os, hg.tape, hg.output, by omega, fun k hk hm => (hg.block k (by omega) (fun e => hm (by injection e with e; simp [e]))).trans (Below.heap_alloc w _ k hk)⟩
end Go.Proofs.Ytahbhaphodgomaa
