/- Walks: Used, Room. -/
import Derived.Test.YtahbhaphodgomaaD2
import Derived.Sort.KeysCollected
namespace Go.Proofs.Ytahbhaphodgomaa
set_option linter.unusedSimpArgs false
set_option linter.unusedVariables false
open Go.RowKit Go.Maps

def strike (left : Lit → Bool) (x : List UInt8) : Lit → Bool := fun z => left z && !z.sameKey (.string x)
theorem strike_self (left : Lit → Bool) (x : List UInt8) : strike left x (.string x) = false := by simp [strike, Lit.sameKey]
theorem strike_other (left : Lit → Bool) (x y : List UInt8) (h : y ≠ x) : strike left x (.string y) = left (.string y) := by simp [strike, Lit.sameKey, h]
def usedL (left : Lit → Bool) : List File → Nat
  | [] => 0
  | f :: r => (if left (.string f.name) then 0 else f.data.length) + usedL left r
theorem usedL_same (left : Lit → Bool) (x : List UInt8) : ∀ fs : List File, (∀ f ∈ fs, f.name ≠ x) → usedL (strike left x) fs = usedL left fs
  | [], _ => rfl
  | f :: r, h => by
    rw [usedL, usedL, strike_other _ _ _ (h f (by simp)), usedL_same left x r (fun f hf => h f (by simp [hf]))]
theorem usedL_step (left : Lit → Bool) : ∀ (fs : List File) (f : File), fs.Pairwise (fun a b => a.name ≠ b.name) → f ∈ fs → left (.string f.name) = true → usedL (strike left f.name) fs = usedL left fs + f.data.length
  | [], f, _, hf, _ => by simp at hf
  | g :: r, f, hp, hf, hl => by
    obtain ⟨h1, h2⟩ := List.pairwise_cons.1 hp
    rcases List.mem_cons.1 hf with rfl | hf
    · rw [usedL, usedL, strike_self, hl, usedL_same left f.name r (fun g hg => (h1 g hg).symm)]
      simp; omega
    · rw [usedL, usedL, strike_other _ _ _ (h1 f hf), usedL_step left r f h2 hf hl]
      omega
theorem usedL_start (left : Lit → Bool) : ∀ fs : List File, (∀ f ∈ fs, left (.string f.name) = true) → usedL left fs = 0
  | [], _ => rfl
  | f :: r, h => by rw [usedL, h f (by simp), usedL_start left r (fun f hf => h f (by simp [hf]))]; rfl
theorem usedL_end (left : Lit → Bool) (h : ∀ kl, left kl = false) : ∀ fs : List File, usedL left fs = used fs
  | [] => rfl
  | f :: r => by rw [usedL, h, usedL_end left h r]; simp [used]
theorem usedL_le (left : Lit → Bool) : ∀ fs : List File, usedL left fs ≤ used fs
  | [] => Nat.le_refl _
  | f :: r => by
    have := usedL_le left r
    rw [usedL]
    simp only [used, List.map_cons, List.sum_cons] at this ⊢
    split <;> omega

theorem Dsk.apart {w : World} {base gd bm : Nat} {fs : List File} {room fuse : Nat} {down : Bool} (h : Dsk w base gd (some bm) fs room fuse down) : fs.Pairwise (fun a b => a.name ≠ b.name) := by
  obtain ⟨es, e, hp, _⟩ := (h.map bm rfl).entries law
  injection e with e
  subst e
  rw [List.pairwise_map] at hp
  exact hp.imp fun h e => h (by simp [ent, e])
theorem look_mem {fs : List File} {x : List UInt8} {f : File} (h : look fs x = some f) : f ∈ fs ∧ f.name = x := by
  have h1 := List.mem_of_find?_eq_some h
  have h2 := List.find?_some h
  exact ⟨h1, by simpa using h2⟩
/-- An entry that comes leads to a file. -/
theorem entry_file {fs : List File} {x : List UInt8} {c : Option Nat} {y : DataW Unit × List MemPlace} (hv : RP (.pointer (c.map fun g => ⟨g, 0, none⟩)) = some y) (hat : ∀ zd, (DataW.map (fs.map ent)).atKey (.string x) zd = y.1) :
    ∃ f ∈ fs, f.name = x ∧ c = some f.blk := by
  have h1 := hat .nil
  rw [atKey_ent] at h1
  cases hl : look fs x with
  | none =>
    have hn : fs.find? (fun f => f.name == x) = none := hl
    have h2 := hat (.lit (.bool true))
    simp only [DataW.atKey, List.find?_map] at h2
    have : ((fun p : Lit × DataW Unit => p.1.sameKey (.string x)) ∘ ent) = (fun f : File => f.name == x) := by funext f; rfl
    rw [this, hn] at h2
    rw [hl] at h1
    simp at h1 h2
    rw [← h1] at h2
    cases h2
  | some f =>
    rw [hl] at h1
    obtain ⟨m1, m2⟩ := look_mem hl
    refine ⟨f, m1, m2, ?_⟩
    cases c with
    | none =>
      simp only [Option.map_none, RP_nil] at hv
      injection hv with hv
      rw [← hv] at h1
      cases h1
    | some g =>
      simp only [Option.map_some, RP_some] at hv
      injection hv with hv
      rw [← hv] at h1
      simp at h1
      congr 1
      omega
theorem invK (key : Value) (kl : Lit) (hk : keyOf Try.prog 9 key = some kl) : ∃ x : List UInt8, key = str x := by
  obtain ⟨x, hx, _⟩ := Maps.keyOf_str Try.underlying9 hk
  exact ⟨x, hx⟩
theorem invV (v : Value) (y : DataW Unit × List MemPlace) (hv : RP v = some y) : ∃ c : Option Nat, v = .pointer (c.map fun g => ⟨g, 0, none⟩) := by
  rcases RP_inv hv with ⟨rfl, _⟩ | ⟨g, rfl, _⟩
  · exact ⟨none, rfl⟩
  · exact ⟨some g, rfl⟩
theorem key_inv {x : List UInt8} {kl : Lit} (hk : keyOf Try.prog 9 (str x) = some kl) : kl = .string x := by
  obtain ⟨x', hx, rfl, _⟩ := Maps.keyOf_str Try.underlying9 hk
  have : x = x' := encStr_inj hx
  rw [this]

set_option maxHeartbeats 1000000 in
set_option maxRecDepth 100000 in
theorem used_any (w : World) (base gd : Nat) (mv : Option Nat) (fs : List File) (room fuse : Nat) (down : Bool) (h : Dsk w base gd mv fs room fuse down) :
    Calls Try.prog 28 #[.pointer (some ⟨gd, 0, none⟩)] w fun e w' => e = .returned (.int .i64 (used fs : Int)) ∧ Below w.heap.size w w' := by
  have hc1 := h.box.c1
  cases mv with
  | none =>
    have hfs := h.none_ rfl
    subst hfs
    have hrg := run_range_nilMap (P := Try.prog) w 62 9 69 Try.underlying62
    have hnx : ∀ ty, (Instr.next (.pointer (some ⟨w.heap.size, 0, none⟩)) false ty).run Try.prog (w.alloc (.mapIter none 0 #[] 0)) = _ := fun ty => run_next_nilMap w ty 0 0 #[]
    have hb := (Below.refl w.heap.size w).alloc (Nat.le_refl _) (.mapIter none 0 #[] 0)
    clear h
    go_enter Try.func28, Try.ntmps28
    go_wp2
    refine wp_loop_rounds 1 ?_
    rw [rounds_succ]
    go_wp2
    go_ret
    exact ⟨rfl, hb⟩
  | some bm =>
    have hown := h.map bm rfl
    have hap := Lib.hid h.apart
    have HH := Lib.hid h
    have hcap : (used fs : Int) ≤ 67108864 := by have h1 := h.fit; have h2 := h.room_le; omega
    clear h
    go_enter Try.func28, Try.ntmps28
    go_wp2_with (first
      | (at_range; refine wpList_range_own _ rfl _ 62 rfl 9 69 law Try.underlying62 _ bm fs.length _ rfl hown ?_; intro w0 hrg0 hg0 hs0)
      | go_in)
    go_frame
    go_loopw [3] (fun s wr => ∃ (left : Lit → Bool) (cnt : Nat), wr.ranges Try.prog 9 RP bm w.heap.size fs.length (.map (fs.map ent)) left cnt ∧ s = .int .i64 (usedL left fs : Int) ∧ w.grownBy wr none)
      (fun _ wr => wr.rangeLeft bm w.heap.size)
    case atStart =>
      refine ⟨_, _, hrg0, ?_, hg0⟩
      rw [usedL_start _ fs]
      · rfl
      · intro f hf
        simp only [has_eq, List.any_map, List.any_eq_true]
        exact ⟨f, hf, by simp [ent, Lit.sameKey]⟩
    case round =>
      obtain ⟨left, cnt, hrg, rfl, hgw⟩ := hrel
      go_wp2_with (first
        | (at_next; refine wpList_next_ranges _ rfl _ rfl 9 law RP str (fun c : Option Nat => .pointer (c.map fun g => ⟨g, 0, none⟩)) invK invV bm w.heap.size fs.length _ _ _ rfl hrg ?_ ?_)
        | go_in)
      · intro _ hl0
        rw [usedL_end left hl0]
        go_wp2
        go_ret
        exact ⟨rfl, (Below.refl _ _).grown hgw (Nat.le_refl _) (fun k hk => by cases hk)⟩
      · intro x c kl yd yp w2 cnt2 hkey hlk hv hat hrg2 hlt hg2 hs2 hen
        obtain rfl := key_inv hkey
        obtain ⟨f, hf, rfl, rfl⟩ := entry_file hv hat
        clear hs2 hv hat hkey
        have hfa := HH.out.files f hf
        have hgw2 : w.grownBy w2 none := hgw.andThen hg2 (fun j hj => by cases hj; exact Or.inl (Nat.le_refl _))
        have hcc := (hfa.box.keep (hgw2.block f.blk hfa.box.lt (by simp))).c0
        obtain ⟨A, c, ev, _, _⟩ := hfa.buf.slice
        rw [ev] at hcc
        have HST := Lib.hid (usedL_step left fs f hap.out hf hlk)
        have hle : (usedL left fs : Int) + (f.data.length : Int) ≤ 67108864 := by have h1 := usedL_le (strike left f.name) fs; rw [HST.out] at h1; omega
        simp only [Option.map_some] at hen ⊢
        generalize f.data.length = fl at *
        generalize usedL left fs = ul at *
        clear hfa ev hlk
        go_wp2_with fail
        go_roundw
        case rel => exact ⟨strike left f.name, cnt2, hrg2, by rw [HST.out]; go_num, hgw2⟩
        case measure => rw [hrg2.left_eq, hrg.left_eq]; exact hlt

set_option maxHeartbeats 1000000 in
set_option maxRecDepth 100000 in
theorem room_any (w : World) (base gd : Nat) (mv : Option Nat) (fs : List File) (room fuse : Nat) (down : Bool) (h : Dsk w base gd mv fs room fuse down) :
    Calls Try.prog 29 #[.pointer (some ⟨gd, 0, none⟩)] w fun e w' => e = .returned (.int .i64 ((room : Int) - (used fs : Int))) ∧ Below w.heap.size w w' := by
  have hU := fun wx (hb : Below w.heap.size w wx) => used_any wx base gd mv fs room fuse down (h.below hb)
  have hroom := h.room_le
  have hfit : (used fs : Int) ≤ (room : Int) := by have := h.fit; omega
  have hS : ∀ wx, Below w.heap.size w wx → wx.cell? ⟨gd, 0, none⟩ = some (.int .i64 (room : Int)) := fun wx hb => (h.below hb).box.c0
  have hU0 := Lib.hid hU
  have HS := Lib.hid hS
  have hwr : IntKind.i64.wrap ((room : Int) - (used fs : Int)) = (room : Int) - (used fs : Int) := by rw [IntWalk.i64_in _ (by omega)]
  clear h hU hS
  generalize used fs = ul at *
  go_enter Try.func29, Try.ntmps29
  go_wp2_with fail
  refine wp_region_noPanic ?_
  refine wp_region_held_drew (S := (fun w' => w'.cell? ⟨gd, 0, none⟩ = some (.int .i64 (room : Int)) ∧ Below w.heap.size w w')) (by kernel_rfl) (⟨HS.out _ (Below.refl _ _).drew, (Below.refl _ _).drew⟩) (fun hHeld => ?_)
  refine wpAnyH_take (i := 0) (v := ?_) (by simp only [List.getElem?_toArray, List.getElem?_cons_succ, List.getElem?_cons_zero]; rfl) (by kernel_rfl) (by kernel_rfl) (by kernel_rfl) (fun _ _ _ h => h) (Or.inl ⟨by rfl, ?_⟩) (by assumption) ?_
  rotate_left
  · (intro w hSw; (try dsimp only at hSw); go_simp; (try with_reducible rfl))
  (try simp only [Act.put, List.setIfInBounds_toArray, List.set_cons_zero, List.set_cons_succ])
  refine wpAnyH_take (i := 1) (v := ?_) (by simp only [List.getElem?_toArray, List.getElem?_cons_succ, List.getElem?_cons_zero]; rfl) (by kernel_rfl) (by kernel_rfl) (by kernel_rfl) (fun _ _ _ h => h) (Or.inl ⟨by rfl, ?_⟩) (by assumption) ?_
  rotate_left
  · (intro w hSw; (try dsimp only at hSw); go_simp; (try with_reducible rfl))
  (try simp only [Act.put, List.setIfInBounds_toArray, List.set_cons_zero, List.set_cons_succ])
  refine wpAnyH_take (i := 2) (v := ?_) (by simp only [List.getElem?_toArray, List.getElem?_cons_succ, List.getElem?_cons_zero]; rfl) (by kernel_rfl) (by kernel_rfl) (by kernel_rfl) (fun _ _ _ h => h) (Or.inl ⟨by rfl, ?_⟩) (by assumption) ?_
  rotate_left
  · (intro w hSw; (try dsimp only at hSw); go_simp; (try with_reducible rfl))
  (try simp only [Act.put, List.setIfInBounds_toArray, List.set_cons_zero, List.set_cons_succ])
  refine wpAnyH_take (i := 3) (v := .int .i64 (room : Int)) (by simp only [List.getElem?_toArray, List.getElem?_cons_succ, List.getElem?_cons_zero]; rfl) (by kernel_rfl) (by kernel_rfl) (by kernel_rfl) (fun _ _ _ h => h) (Or.inl ⟨by rfl, ?_⟩) (by assumption) ?_
  · (intro w hSw; (try dsimp only at hSw); go_simp; (try simp [hSw.1]))
  (try simp only [Act.put, List.setIfInBounds_toArray, List.set_cons_zero, List.set_cons_succ])
  refine wpAnyH_take (i := 4) (v := ?_) (by simp only [List.getElem?_toArray, List.getElem?_cons_succ, List.getElem?_cons_zero]; rfl) (by kernel_rfl) (by kernel_rfl) (by kernel_rfl) (fun _ _ _ h => h) (Or.inl ⟨by rfl, ?_⟩) (by assumption) ?_
  rotate_left
  · (intro w hSw; (try dsimp only at hSw); go_simp; (try with_reducible rfl))
  (try simp only [Act.put, List.setIfInBounds_toArray, List.set_cons_zero, List.set_cons_succ])
  refine wpAnyH_ready (rs := [5]) (by kernel_rfl) (by simp) ?_
  refine AllReadyH.cons (by simp only [List.getElem?_toArray, List.getElem?_cons_succ, List.getElem?_cons_zero]; rfl) (fun K hK => ?_) AllReadyH.nil
  go_simp
  refine (hU0.out _ hHeld.2).mono ?_
  rintro q w4 ⟨rfl, hb4⟩
  go_simp
  refine hK.out _ _ ?_ (fun hHeld => ?_)
  · exact ⟨HS.out _ (hHeld.2.trans (hb4.mono hHeld.2.size)), hHeld.2.trans (hb4.mono hHeld.2.size)⟩
  clear hK K
  (try simp only [Act.put, List.setIfInBounds_toArray, List.set_cons_zero, List.set_cons_succ])
  refine wpAnyH_take (i := 6) (v := .int .i64 ((room : Int) - (ul : Int))) (by simp only [List.getElem?_toArray, List.getElem?_cons_succ, List.getElem?_cons_zero]; rfl) (by kernel_rfl) (by kernel_rfl) (by kernel_rfl) (fun _ _ _ h => h) (Or.inl ⟨by rfl, ?_⟩) (by assumption) ?_
  · (intro w hSw; (try dsimp only at hSw); go_simp; (try simp [hwr]))
  (try simp only [Act.put, List.setIfInBounds_toArray, List.set_cons_zero, List.set_cons_succ])
  refine wpAnyH_take (i := 7) (v := ?_) (by simp only [List.getElem?_toArray, List.getElem?_cons_succ, List.getElem?_cons_zero]; rfl) (by kernel_rfl) (by kernel_rfl) (by kernel_rfl) (fun _ _ _ h => h) (Or.inl ⟨by rfl, ?_⟩) (by assumption) ?_
  rotate_left
  · (intro w hSw; (try dsimp only at hSw); go_simp; (try with_reducible rfl))
  (try simp only [Act.put, List.setIfInBounds_toArray, List.set_cons_zero, List.set_cons_succ])
  refine wpAnyH_done (by kernel_rfl) ?_ _
  refine NoPanic.normal ?_
  obtain ⟨_, hfin⟩ := hHeld
  go_wp2_with fail
  go_ret
  exact ⟨rfl, hfin⟩
end Go.Proofs.Ytahbhaphodgomaa
