/- Walks: step, find, sign, Named, New, Down, Fuse. -/
import Derived.Test.YtahbhaphodgomaaD1
import Derived.WalkKit
import Derived.WalkSpells
import Derived.WalkLawsBesides
import Derived.Deep.RegionHeld3
import Derived.Deep.DeepCutAuto
import Derived.StillTailTactics
import Derived.BigQuiet
import Derived.Lib.Hide
namespace Go.Proofs.Ytahbhaphodgomaa
set_option linter.unusedSimpArgs false
set_option linter.unusedVariables false
open Go.RowKit Go.Maps

theorem Dsk.boxed {w w' : World} {base gd : Nat} {mv : Option Nat} {fs : List File} {room fuse : Nat} {down : Bool} (h : Dsk w base gd mv fs room fuse down) {fuse' : Nat} {down' : Bool}
    (hb : Bx4 w' gd (.int .i64 (room : Int)) (.map mv) (.int .i64 (fuse' : Int)) (.bool down')) (hs : w.heap.size ≤ w'.heap.size) (hk : ∀ k ∈ feet gd mv fs, k ≠ gd → w'.heap[k]? = w.heap[k]?) (hf : (fuse' : Int) ≤ 9223372036854775807) :
    Dsk w' base gd mv fs room fuse' down' := by
  have hn := h.nodup
  have hng : ∀ k ∈ mv.toList ++ fs.flatMap File.foot, k ≠ gd := fun k hm e => (List.nodup_cons.1 hn).1 (e ▸ hm)
  refine ⟨hb, h.none_, fun bm e => owns_keep (h.map bm e) (hk bm (by subst e; simp [feet]) (hng bm (by subst e; simp))), fun f hf => (h.files f hf).keep hs (fun k hm => ?_), hn, fun k hm => ⟨(h.low k hm).1, Nat.lt_of_lt_of_le (h.low k hm).2 hs⟩, h.fit, h.room_le, hf⟩
  have hm2 : k ∈ mv.toList ++ fs.flatMap File.foot := by simp only [List.mem_append, List.mem_flatMap]; exact Or.inr ⟨f, hf, hm⟩
  exact hk k (by simp only [feet]; exact List.mem_cons_of_mem _ hm2) (hng k hm2)

set_option maxHeartbeats 400000 in
theorem step_any (w : World) (base gd : Nat) (mv : Option Nat) (fs : List File) (room fuse : Nat) (down : Bool) (h : Dsk w base gd mv fs room fuse down) :
    Calls Try.prog 37 #[.pointer (some ⟨gd, 0, none⟩)] w fun e w' => e = .returned (.int .i64 ((if fuse = 1 then 10 else 0 : Nat) : Int)) ∧ Dsk w' base gd mv fs room (fuse - 1) (down || decide (fuse = 1)) ∧ Tch w w' [gd] := by
  have hc := h.box.c2
  have hf0 := h.box.cold 2
  have hfl := h.fuse_le
  have HH := Lib.hid h
  clear h
  by_cases h0 : fuse = 0
  · subst h0
    rw [if_neg (by decide)]
    go_enter Try.func37, Try.ntmps37
    go_wp2_with fail
    go_ret
    exact ⟨rfl, by simpa using HH.out, Tch.refl _ _⟩
  · have h0' : ((fuse : Int) == 0) = false := by simp; omega
    have hb2 := HH.out.box.set2 (.int .i64 ((fuse : Int) - 1))
    have ht2 := Tch.of_grown (L := [gd]) (grown_setCell w ⟨gd, 2, none⟩ (.int .i64 ((fuse : Int) - 1))) (by intro k e; injection e with e; exact List.mem_singleton.2 e.symm)
    by_cases h1 : fuse = 1
    · subst h1
      rw [if_pos rfl]
      have e10 : ((1 : Nat) : Int) - 1 = 0 := rfl
      go_enter Try.func37, Try.ntmps37
      go_upto_region 4 with fail
      rw [e10] at hb2 ht2
      generalize w.setCell ⟨gd, 2, none⟩ (.int .i64 0) = w2 at *
      have hc2 := hb2.c2
      have hf3 := hb2.cold 3
      have hc3 := hb2.c3
      clear hc hf0
      have hb3 := hb2.set3 (.bool true)
      have ht3 := ht2.trans (Tch.of_grown (L := [gd]) (grown_setCell w2 ⟨gd, 3, none⟩ (.bool true)) (by intro k e; injection e with e; exact List.mem_singleton.2 e.symm)) (fun i hi => Or.inl hi)
      go_wp2_with fail
      go_ret
      refine ⟨rfl, ?_, ht3⟩
      have := HH.out.boxed (fuse' := 0) (down' := true) hb3 ht3.size (fun k hm hne => ht3.block k (HH.out.low k hm).2 (by simpa using hne)) (by omega)
      simpa using this
    · rw [if_neg h1]
      go_enter Try.func37, Try.ntmps37
      go_upto_region 4 with fail
      generalize w.setCell ⟨gd, 2, none⟩ (.int .i64 ((fuse : Int) - 1)) = w2 at *
      have hc2 := hb2.c2
      clear hc hf0
      have h1' : (0 : Int) < (fuse : Int) - 1 := by omega
      go_wp2_with fail
      go_ret
      refine ⟨rfl, ?_, ht2⟩
      rw [decide_eq_false h1, Bool.or_false]
      refine HH.out.boxed ?_ ht2.size (fun k hm hne => ht2.block k (HH.out.low k hm).2 (by simpa using hne)) (by omega)
      rwa [show ((fuse - 1 : Nat) : Int) = (fuse : Int) - 1 by omega]

theorem law : Keyed Try.prog 9 := string_keyed Try.underlying9
theorem zeroP (w : World) : (zeroValue 69).run Try.prog w = .ok (.pointer none) w := by kernel_rfl
theorem RP_nil : RP (.pointer none) = some (.nil, []) := rfl
theorem RP_some (g : Nat) : RP (.pointer (some ⟨g, 0, none⟩)) = some (.lit (.int .u64 (g : Int)), []) := rfl
theorem RP_inv {v : Value} {y : DataW Unit × List MemPlace} (h : RP v = some y) : (v = .pointer none ∧ y = (.nil, [])) ∨ ∃ g : Nat, v = .pointer (some ⟨g, 0, none⟩) ∧ y = (.lit (.int .u64 (g : Int)), []) := by
  unfold RP at h
  split at h
  · injection h with h; exact Or.inr ⟨_, rfl, h.symm⟩
  · injection h with h; exact Or.inl ⟨rfl, h.symm⟩
  · cases h
def look (fs : List File) (x : List UInt8) : Option File := fs.find? (fun f => f.name == x)
theorem atKey_ent (fs : List File) (x : List UInt8) : (DataW.map (fs.map ent)).atKey (.string x) .nil = match look fs x with | some f => .lit (.int .u64 (f.blk : Int)) | none => .nil := by
  simp only [DataW.atKey, look]
  rw [List.find?_map]
  have : ((fun p : Lit × DataW Unit => p.1.sameKey (.string x)) ∘ ent) = (fun f : File => f.name == x) := by funext f; rfl
  rw [this]
  cases fs.find? (fun f => f.name == x) <;> rfl
def str (x : List UInt8) : Value := .string ⟨x.toArray⟩
theorem key_str (x : List UInt8) (hx : x.length ≤ 1000) : keyOf Try.prog 9 (str x) = some (.string x) := by
  have := Go.WideMaps.keyOf_string_mk (P := Try.prog) (k := 9) Try.underlying9 (s := ⟨x.toArray⟩) (by unfold maxLen; show x.toArray.size ≤ _; simp; omega)
  simpa [str] using this
/-- What 'd.files[name]' is. -/
theorem look_run {w : World} {base gd : Nat} {mv : Option Nat} {fs : List File} {room fuse : Nat} {down : Bool} (h : Dsk w base gd mv fs room fuse down) (x : List UInt8) (hx : x.length ≤ 1000) :
    (Instr.lookup 62 (.map mv) (str x) false).run Try.prog w = .ok (.pointer ((look fs x).map fun f => ⟨f.blk, 0, none⟩)) w := by
  cases mv with
  | none =>
    rw [h.none_ rfl]
    have := Maps.look_nil (w := w) false law Try.underlying62 (zeroP w) (key_str x hx)
    simpa [look] using this
  | some bm =>
    obtain ⟨v, ps, hrun, hv⟩ := (h.map bm rfl).lookup law Try.underlying62 (zeroP w) RP_nil (key_str x hx)
    rw [hrun]
    rw [atKey_ent] at hv
    rcases RP_inv hv with ⟨rfl, e⟩ | ⟨g, rfl, e⟩
    · cases hl : look fs x with
      | none => rfl
      | some f => rw [hl] at e; cases e
    · cases hl : look fs x with
      | none => rw [hl] at e; cases e
      | some f =>
        rw [hl] at e
        have e1 := congrArg Prod.fst e
        have : f.blk = g := by simp at e1; omega
        subst this
        rfl

set_option maxHeartbeats 400000 in
set_option maxRecDepth 100000 in
theorem find_any (w : World) (base gd : Nat) (mv : Option Nat) (fs : List File) (room fuse : Nat) (down : Bool) (x : List UInt8) (h : Dsk w base gd mv fs room fuse down) (hx : x.length ≤ 1000) :
    Calls Try.prog 38 #[.pointer (some ⟨gd, 0, none⟩), str x] w fun e w' => e = .returned (.tuple (if down then #[.pointer none, .int .i64 10] else match look fs x with | none => #[.pointer none, .int .i64 4] | some f => #[.pointer (some ⟨f.blk, 0, none⟩), .int .i64 0])) ∧ w = w' := by
  have hc1 := h.box.c1
  have hc3 := h.box.c3
  have hl := look_run h x hx
  clear h hx
  unfold str at hl ⊢
  cases down with
  | true =>
    go_enter Try.func38, Try.ntmps38
    go_wp2_with fail
    go_ret2
    exact ⟨rfl, rfl⟩
  | false =>
    cases hlk : look fs x with
    | none =>
      rw [hlk] at hl
      simp only [Option.map_none] at hl
      go_enter Try.func38, Try.ntmps38
      go_wp2_with fail
      go_ret2
      exact ⟨rfl, rfl⟩
    | some f =>
      rw [hlk] at hl
      simp only [Option.map_some] at hl
      go_enter Try.func38, Try.ntmps38
      go_wp2_with fail
      go_ret2
      exact ⟨rfl, rfl⟩
end Go.Proofs.Ytahbhaphodgomaa
