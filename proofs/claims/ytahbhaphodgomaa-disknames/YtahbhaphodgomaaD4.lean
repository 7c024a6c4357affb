/- A disk as what it tells; a file that is turned. Walks: Sync, Append. -/
import Derived.Test.YtahbhaphodgomaaD3
import Derived.OwnWalk
namespace Go.Proofs.Ytahbhaphodgomaa
set_option linter.unusedSimpArgs false
set_option linter.unusedVariables false
open Go.RowKit Go.Maps

structure AF where
  name : List UInt8
  data : List Nat
  sure : Nat
structure DS where
  all : List AF
  room : Nat
  fuse : Nat
  down : Bool
def abs (f : File) : AF := ⟨f.name, f.data, f.sure⟩
def lookA (A : List AF) (x : List UInt8) : Option AF := A.find? (fun f => f.name == x)
theorem lookA_abs (fs : List File) (x : List UInt8) : lookA (fs.map abs) x = (look fs x).map abs := by
  unfold lookA look
  rw [List.find?_map]
  rfl
def usedA (A : List AF) : Nat := (A.map fun f => f.data.length).sum
theorem usedA_abs (fs : List File) : usedA (fs.map abs) = used fs := by
  unfold usedA used
  rw [List.map_map]; rfl
def setA (A : List AF) (x : List UInt8) (g : AF → AF) : List AF := A.map fun f => if f.name = x then g f else f

def Dk (w : World) (base gd : Nat) (L : List Nat) (s : DS) : Prop := ∃ mv fs, Dsk w base gd mv fs s.room s.fuse s.down ∧ fs.map abs = s.all ∧ feet gd mv fs = L
def Nxt (w : World) (base gd : Nat) (L : List Nat) (w' : World) (s' : DS) : Prop := ∃ L', Dk w' base gd L' s' ∧ Tch w w' L ∧ ∀ k ∈ L', k ∈ L ∨ w.heap.size ≤ k
theorem Dk.low {w : World} {base gd : Nat} {L : List Nat} {s : DS} (h : Dk w base gd L s) : ∀ k ∈ L, base ≤ k ∧ k < w.heap.size := by
  obtain ⟨mv, fs, hd, _, rfl⟩ := h
  exact hd.low
theorem Dk.keep {w w' : World} {base gd : Nat} {L : List Nat} {s : DS} (h : Dk w base gd L s) (hs : w.heap.size ≤ w'.heap.size) (hk : ∀ k ∈ L, w'.heap[k]? = w.heap[k]?) : Dk w' base gd L s := by
  obtain ⟨mv, fs, hd, e, rfl⟩ := h
  exact ⟨mv, fs, hd.keep hs hk, e, rfl⟩
theorem Dk.below {w w' : World} {base gd : Nat} {L : List Nat} {s : DS} (h : Dk w base gd L s) (hb : Below w.heap.size w w') : Dk w' base gd L s := h.keep hb.size (fun k hm => hb.block k (h.low k hm).2)
theorem Dk.drew {w : World} {base gd : Nat} {L : List Nat} {s : DS} (h : Dk w base gd L s) : Dk w.drew base gd L s := h.keep (Nat.le_refl _) (fun _ _ => rfl)
theorem Dk.next {w w' : World} {base gd : Nat} {L : List Nat} {s : DS} (h : Dk w base gd L s) (hb : Below w.heap.size w w') : Nxt w base gd L w' s := ⟨L, h.below hb, Tch.of_below L hb, fun k hk => Or.inl hk⟩
theorem Dk.same {w : World} {base gd : Nat} {L : List Nat} {s : DS} (h : Dk w base gd L s) : Nxt w base gd L w s := ⟨L, h, Tch.refl _ _, fun k hk => Or.inl hk⟩
theorem Nxt.before {w w1 w2 : World} {base gd : Nat} {L : List Nat} {s : DS} (hb : Below w.heap.size w w1) (h : Nxt w1 base gd L w2 s) : Nxt w base gd L w2 s := by
  obtain ⟨L', hd, ht, hs⟩ := h
  refine ⟨L', hd, (Tch.of_below L hb).trans ht (fun i hi => Or.inl hi), fun k hk => (hs k hk).imp id (fun h => Nat.le_trans hb.size h)⟩
theorem Nxt.after {w w1 w2 : World} {base gd : Nat} {L : List Nat} {s : DS} (h : Nxt w base gd L w1 s) (hb : Below w1.heap.size w1 w2) : Nxt w base gd L w2 s := by
  obtain ⟨L', hd, ht, hs⟩ := h
  exact ⟨L', hd.below hb, ht.trans (Tch.of_below [] hb) (by simp), hs⟩
theorem Nxt.trans {w w1 w2 : World} {base gd : Nat} {L : List Nat} {s1 s2 : DS} (h : Nxt w base gd L w1 s1) (k : ∀ L', Dk w1 base gd L' s1 → Nxt w1 base gd L' w2 s2) : Nxt w base gd L w2 s2 := by
  obtain ⟨L1, hd1, ht1, hs1⟩ := h
  obtain ⟨L2, hd2, ht2, hs2⟩ := k L1 hd1
  refine ⟨L2, hd2, ht1.trans ht2 hs1, fun k hk => ?_⟩
  rcases hs2 k hk with h | h
  · exact hs1 k h
  · exact Or.inr (Nat.le_trans ht1.size h)
theorem Nxt.below {w w' : World} {base gd : Nat} {L : List Nat} {s s' : DS} (h : Nxt w base gd L w' s') (h0 : Dk w base gd L s) (hB : base ≤ w.heap.size) : Below base w w' := by
  obtain ⟨L', hd, ht, hs⟩ := h
  exact ht.below hB (fun i hi => (h0.low i hi).1)

theorem feet_perm (gd : Nat) (mv : Option Nat) (pre post : List File) (f : File) : (feet gd mv (pre ++ f :: post)).Perm (f.v.ownBlock.toList ++ (f.blk :: feet gd mv (pre ++ post))) := by
  rw [List.perm_iff_count]
  intro a
  simp only [feet, File.foot, List.flatMap_append, List.flatMap_cons, List.count_append, List.count_cons, List.cons_append]
  omega
theorem foot_in (gd : Nat) (mv : Option Nat) (fs : List File) (f : File) (hf : f ∈ fs) : ∀ k ∈ f.foot, k ∈ feet gd mv fs := by
  intro k hk
  simp only [feet, List.mem_cons, List.mem_append, List.mem_flatMap]
  exact Or.inr (Or.inr ⟨f, hf, hk⟩)
/-- One file is turned, and new blocks are laid. -/
theorem Dsk.turn {w w' : World} {base gd : Nat} {mv : Option Nat} {pre post : List File} {f : File} {room fuse : Nat} {down : Bool} (h : Dsk w base gd mv (pre ++ f :: post) room fuse down) (f' : File) (hn : f'.name = f.name) (hb : f'.blk = f.blk)
    (hv : f'.v.ownBlock = f.v.ownBlock ∨ ∀ k, f'.v.ownBlock = some k → w.heap.size ≤ k) (hs : w.heap.size ≤ w'.heap.size) (hk : ∀ k, k < w.heap.size → k ∉ f.foot → w'.heap[k]? = w.heap[k]?) (hf : FileAt w' base f')
    (hfit : used (pre ++ f' :: post) ≤ room) (hbase : base ≤ w.heap.size) :
    Dsk w' base gd mv (pre ++ f' :: post) room fuse down ∧ ∀ k ∈ feet gd mv (pre ++ f' :: post), k ∈ feet gd mv (pre ++ f :: post) ∨ w.heap.size ≤ k := by
  have hp := feet_perm gd mv pre post f
  have hp' := feet_perm gd mv pre post f'
  have hN := hp.nodup_iff.1 h.nodup
  obtain ⟨n1, n2, n3⟩ := List.nodup_append.1 hN
  have hrest : ∀ k ∈ f.blk :: feet gd mv (pre ++ post), k ∈ feet gd mv (pre ++ f :: post) := fun k hk => hp.mem_iff.2 (List.mem_append_right _ hk)
  have hsub : ∀ k ∈ feet gd mv (pre ++ f' :: post), k ∈ feet gd mv (pre ++ f :: post) ∨ w.heap.size ≤ k := by
    intro k hk'
    have := hp'.mem_iff.1 hk'
    rw [hb] at this
    rcases List.mem_append.1 this with h1 | h1
    · rcases hv with e | e
      · rw [e] at h1; exact Or.inl (hp.mem_iff.2 (List.mem_append_left _ h1))
      · exact Or.inr (e k (by simpa using h1))
    · exact Or.inl (hrest k h1)
  -- what stays is not the file's own
  have hstay : ∀ k ∈ feet gd mv (pre ++ post), w'.heap[k]? = w.heap[k]? := by
    intro k hk'
    refine hk k (h.low k (hrest k (List.mem_cons_of_mem _ hk'))).2 (fun hm => ?_)
    rcases List.mem_cons.1 hm with rfl | hm
    · exact (List.nodup_cons.1 n2).1 hk'
    · exact n3 k hm k (List.mem_cons_of_mem _ hk') rfl
  have hfl : ∀ g ∈ pre ++ post, g ∈ pre ++ f :: post := by
    intro g hg
    rcases List.mem_append.1 hg with h1 | h1
    · exact List.mem_append_left _ h1
    · exact List.mem_append_right _ (List.mem_cons_of_mem _ h1)
  refine ⟨⟨h.box.keep (hstay gd (by simp [feet])), ?_, ?_, ?_, ?_, ?_, hfit, h.room_le, h.fuse_le⟩, hsub⟩
  · intro e
    have := h.none_ e
    simp at this
  · intro bm e
    have h1 := owns_keep (h.map bm e) (hstay bm (by subst e; simp [feet]))
    have e2 : (pre ++ f' :: post).map ent = (pre ++ f :: post).map ent := by simp [ent, hn, hb]
    have e3 : (pre ++ f' :: post).length = (pre ++ f :: post).length := by simp
    rw [e2, e3]; exact h1
  · intro g hg
    have hg' : g ∈ pre ++ post ∨ g = f' := by
      rcases List.mem_append.1 hg with h1 | h1
      · exact Or.inl (List.mem_append_left _ h1)
      · rcases List.mem_cons.1 h1 with rfl | h1
        · exact Or.inr rfl
        · exact Or.inl (List.mem_append_right _ h1)
    rcases hg' with h1 | rfl
    · exact (h.files g (hfl g h1)).keep hs (fun k hk' => hstay k (foot_in gd mv _ g h1 k hk'))
    · exact hf
  · rw [hp'.nodup_iff, List.nodup_append]
    refine ⟨by cases f'.v.ownBlock <;> simp, by rw [hb]; exact n2, fun a ha b hb' e => ?_⟩
    subst e
    rw [hb] at hb'
    rcases hv with e | e
    · rw [e] at ha; exact n3 a ha a hb' rfl
    · have h1 := e a (by simpa using ha)
      have h2 := (h.low a (hrest a hb')).2
      omega
  · intro k hk'
    rcases hsub k hk' with h1 | h1
    · exact ⟨(h.low k h1).1, Nat.lt_of_lt_of_le (h.low k h1).2 hs⟩
    · refine ⟨Nat.le_trans hbase h1, ?_⟩
      have := hp'.mem_iff.1 hk'
      rw [hb] at this
      rcases List.mem_append.1 this with h2 | h2
      · exact (hf.buf.lt k (by simpa using h2)).2
      · exact Nat.lt_of_lt_of_le (h.low k (hrest k h2)).2 hs
theorem setA_split (pre post : List AF) (f : AF) (g : AF → AF) (hp : (pre ++ f :: post).Pairwise (fun a b => a.name ≠ b.name)) : setA (pre ++ f :: post) f.name g = pre ++ g f :: post := by
  obtain ⟨h1, h2, h3⟩ := List.pairwise_append.1 hp
  obtain ⟨h4, h5⟩ := List.pairwise_cons.1 h2
  have e1 : pre.map (fun a => if a.name = f.name then g a else a) = pre := by
    conv => rhs; rw [← List.map_id pre]
    exact List.map_congr_left fun a ha => if_neg (h3 a ha f (by simp))
  have e2 : post.map (fun a => if a.name = f.name then g a else a) = post := by
    conv => rhs; rw [← List.map_id post]
    exact List.map_congr_left fun a ha => if_neg (fun e => h4 a ha e.symm)
  rw [setA, List.map_append, List.map_cons, e1, e2, if_pos rfl]
theorem look_split {fs : List File} {x : List UInt8} {f : File} (h : look fs x = some f) : f.name = x ∧ ∃ pre post, fs = pre ++ f :: post := by
  obtain ⟨h1, h2⟩ := look_mem h
  obtain ⟨pre, post, e⟩ := List.append_of_mem h1
  exact ⟨h2, pre, post, e⟩
theorem Dsk.apart' {w : World} {base gd : Nat} {mv : Option Nat} {fs : List File} {room fuse : Nat} {down : Bool} (h : Dsk w base gd mv fs room fuse down) : fs.Pairwise (fun a b => a.name ≠ b.name) := by
  cases mv with
  | none => rw [h.none_ rfl]; exact List.Pairwise.nil
  | some bm => exact h.apart
end Go.Proofs.Ytahbhaphodgomaa
