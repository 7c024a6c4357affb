/- Walks: mark, the two closures. -/
import Derived.Test.YtajgmadohhagkaaDoorBP
import Derived.Test.YtajgmadohhagkaaDoorConv
import Derived.BigQuiet
import Derived.Deep.QuietTactic
import Derived.Deep.DeepCutAuto
namespace Go.Proofs.YtajgmadohhagkaaDoor
set_option linter.unusedSimpArgs false
set_option linter.unusedVariables false
open Go.RowKit

set_option maxHeartbeats 1000000 in
theorem mark_any (i : Nat) (hi : (i : Int) ≤ 18446744073709551615) (w : World) :
    Calls Tryd.prog 19 #[.int .u64 (i : Int)] w fun e w' => e = .returned (.int .u8 ((2 ^ (i % 8) : Nat) : Int)) ∧ w = w' := by
  go_enter Tryd.func19, Tryd.ntmps19
  go_wp2
  go_ret
  refine ⟨?_, rfl⟩
  have h := pow_byte i
  have e : ((2 : Int) ^ (i % 8)) = ((2 ^ (i % 8) : Nat) : Int) := by simp
  rw [e]
  generalize (2 ^ (i % 8) : Nat) = P at *
  have e2 : (P : Int) % 256 = (P : Int) := by omega
  rw [e2]
  rfl

theorem u8_and_pow (c m : Nat) (hc : c < 256) (hm : m < 8) : bits BinOp.and IntKind.u8 (c : Int) ((2 ^ m : Nat) : Int) = (((c.testBit m).toNat * 2 ^ m : Nat) : Int) := by
  have hp : 2 ^ m < 256 := by
    have e : (256 : Nat) = 2 ^ 8 := by decide
    rw [e]
    exact Nat.pow_lt_pow_right (by decide) hm
  rw [u8_and_nat _ _ hc hp]
  congr 1
  refine Nat.eq_of_testBit_eq fun j => ?_
  rw [Nat.testBit_and, Nat.testBit_two_pow]
  by_cases e : m = j
  · subst e
    cases c.testBit m <;> simp
  · rw [decide_eq_false e, Bool.and_false]
    cases c.testBit m
    · simp
    · simp only [Bool.toNat_true, Nat.one_mul]
      rw [Nat.testBit_two_pow, decide_eq_false e]

theorem below_drewN (w : World) (n : Nat) : Below w.heap.size w (w.drewN n) := ⟨rfl, rfl, rfl, Nat.le_refl _, fun _ _ => rfl⟩

set_option maxHeartbeats 1000000 in
theorem hit_any (l : List Nat) (hl : ∀ c ∈ l, c < 256) (gf i : Nat) (hi : i / 8 < l.length) (hi6 : (i : Int) ≤ 18446744073709551615) (w : World) (hc : w.cell? ⟨gf, 0, none⟩ = some (.string (strB l))) :
    Calls Tryd.prog 22 #[.int .u64 (i : Int), .pointer (some ⟨gf, 0, none⟩)] w fun e w' => e = .returned (.bool (hasB l i)) ∧ Below w.heap.size w w' := by
  have MK := Lib.hid (fun n => quiet_same (mark_any i hi6 (w.drewN n)))
  have hjs : i / 8 < (strB l).size := by rw [strB_size]; exact hi
  have hat := strB_at l hl (i / 8) hjs
  have hcl := getD_lt hl (i / 8)
  have hm : i % 8 < 8 := Nat.mod_lt _ (by decide)
  have hq : (i : Int) / 8 = ((i / 8 : Nat) : Int) := by omega
  have HR : Hid (hasB l i = (l.getD (i / 8) 0).testBit (i % 8)) := Lib.hid rfl
  have HA := u8_and_pow _ _ hcl hm
  rw [HR.out]
  generalize l.getD (i / 8) 0 = c at *
  generalize i / 8 = q at *
  have HT : Hid (∀ b : Bool, decide ((b.toNat * 2 ^ (i % 8) : Nat) = 0) = !b) := Lib.hid (by
    intro b
    have := Nat.two_pow_pos (i % 8)
    cases b <;> simp)
  generalize 2 ^ (i % 8) = P at *
  generalize c.testBit (i % 8) = tb at *
  have HT2 := HT.out tb
  generalize tb.toNat * P = y at *
  go_enter Tryd.func22, Tryd.ntmps22
  go_upto_region 1 with fail
  go_quiet ((go_at_call 19; exact MK.out _))
  go_wp2
  go_ret
  refine ⟨?_, below_drewN _ _⟩
  have e : ((y : Int) != 0) = tb := by
    cases tb
    · have : y = 0 := by simpa using HT2
      simp [this]
    · have : ¬ y = 0 := by simpa using HT2
      simp [bne]
      omega
  show Ending.returned (.bool ((y : Int) != 0)) = _
  rw [e]

/-- A row of bytes of the call's own that stands in a variable. -/
structure Bts (w : World) (b gb : Nat) (v : Value) (l : List Nat) : Prop where
  cell : w.cell? ⟨gb, 0, none⟩ = some v
  own : w.ownsRow b 5 1 v l.length (bys l)
  ne : v.ownBlock ≠ some gb
  lo : b ≤ gb
theorem Bts.keep {w w' : World} {b gb : Nat} {v : Value} {l : List Nat} (h : Bts w b gb v l) (k1 : w'.heap[gb]? = w.heap[gb]?) (k2 : ∀ k, v.ownBlock = some k → w'.heap[k]? = w.heap[k]?) : Bts w' b gb v l :=
  ⟨(World.cell?_of_block (w := w) (a := ⟨gb, 0, none⟩) k1).trans h.cell, own_keep h.own k2, h.ne, h.lo⟩
theorem Bts.below {w w' : World} {b gb : Nat} {v : Value} {l : List Nat} (h : Bts w b gb v l) (hb : Below w.heap.size w w') : Bts w' b gb v l :=
  h.keep (hb.block gb (World.block_lt_of_cell? _ _ h.cell)) fun k hk => hb.block k (own_lt h.own k hk).2

set_option maxHeartbeats 1000000 in
theorem set_any (l : List Nat) (hl : ∀ c ∈ l, c < 256) (b gb i : Nat) (v : Value) (hi : i / 8 < l.length) (hi6 : (i : Int) ≤ 18446744073709551615) (w : World) (h : Bts w b gb v l) :
    Calls Tryd.prog 18 #[.int .u64 (i : Int), .pointer (some ⟨gb, 0, none⟩)] w fun e w' => e = .returned (.bool true) ∧ Bts w' b gb v (setB l i) ∧ Below b w w' := by
  obtain ⟨g, cap, rfl, hbg, hg, hcap, hcm⟩ := own_open h.own (by omega)
  have HS : Hid (setB l i = l.set (i / 8) (l.getD (i / 8) 0 ||| 2 ^ (i % 8))) := Lib.hid rfl
  have HP := Lib.hid (fun y => show Bts (w.drew.setCell ⟨g, i / 8, none⟩ (.int .u8 ((y : Nat) : Int))) b gb (.slice (some ⟨g, 0, none⟩) l.length cap) (l.set (i / 8) y) ∧ Below b w (w.drew.setCell ⟨g, i / 8, none⟩ (.int .u8 ((y : Nat) : Int))) from by
    have h' : w.drew.ownsRow b 5 1 (.slice (some ⟨g, 0, none⟩) l.length cap) l.length (bys l) := h.own
    obtain ⟨h1, h2⟩ := h'.stored (i / 8) (.int .u8 (y : Int))
    have hne : gb ≠ g := fun e => h.ne (by rw [e]; rfl)
    refine ⟨⟨?_, ?_, h.ne, h.lo⟩, ((Below.refl b w).drew).setCell hbg _⟩
    · rw [World.cell?_setCell_far _ _ _ _ (by show g ≠ gb; exact fun e => hne e.symm)]
      exact h.cell
    · rw [List.length_set]
      simpa [bys, List.map_set] using h1)
  have MK := Lib.hid (fun W => mark_any i hi6 W)
  have hq : (i : Int) / 8 = ((i / 8 : Nat) : Int) := by omega
  have hcell := (own_rd h.own).2 (by omega)
  obtain ⟨g', off, e1, _, hc⟩ := hcell
  injection e1 with e1
  injection e1 with e1 e2
  subst e1
  subst e2
  have hce := hc (i / 8) _ (bys_get l (i / 8) hi)
  rw [Nat.zero_add] at hce
  have hcb := h.cell
  have hfz := h.own.frozenAt (i / 8)
  have hcl := getD_lt hl (i / 8)
  have hor := u8_or_nat _ _ hcl (pow_byte i)
  rw [HS.out]
  generalize l.getD (i / 8) 0 = c at *
  generalize i / 8 = q at *
  generalize 2 ^ (i % 8) = P at *
  generalize l.length = n at *
  have HP2 := Lib.hid (HP.out (c ||| P))
  generalize c ||| P = y at *
  clear HP h hc HS
  have hqn : (q : Int) < (n : Int) := by omega
  have hwq : IntKind.u64.wrap (q : Int) = (q : Int) := by rw [IntKind.wrap_u64]; omega
  go_enter Tryd.func18, Tryd.ntmps18
  go_upto_region 1 with fail
  have f1 : w.drew.cell? ⟨g, q, none⟩ = some (.int .u8 (c : Int)) := hce
  have HCB : Hid ((w.drew.setCell ⟨g, q, none⟩ (.int .u8 (y : Int))).cell? ⟨gb, 0, none⟩ = some (.slice (some ⟨g, 0, none⟩) n cap)) := Lib.hid HP2.out.1.cell
  have HFZ : Hid ((w.drew.setCell ⟨g, q, none⟩ (.int .u8 (y : Int))).frozen? ⟨g, q, none⟩ = false) := Lib.hid ((World.frozen?_setCell _ _ _ _).trans hfz)
  refine wp_region_noPanic ?_
  refine wp_region_held_drew (S := (fun wx => wx.cell? ⟨gb, 0, none⟩ = some (.slice (some ⟨g, 0, none⟩) n cap) ∧ wx.frozen? ⟨g, q, none⟩ = false)) (by kernel_rfl) (⟨hcb, hfz⟩) (fun hHeld => ?_)
  refine wpAnyH_take (i := 0) (v := ?_) (by simp only [List.getElem?_toArray, List.getElem?_cons_succ, List.getElem?_cons_zero]; rfl) (by kernel_rfl) (by kernel_rfl) (by kernel_rfl) (fun _ _ _ h => h) (Or.inl ⟨by rfl, ?_⟩) (by assumption) ?_
  rotate_left
  · (intro w hSw; (try dsimp only at hSw); go_simp; (try with_reducible rfl))
  (try simp only [Act.put, List.setIfInBounds_toArray, List.set_cons_zero, List.set_cons_succ])
  refine wpAnyH_take (i := 1) (v := ?_) (by simp only [List.getElem?_toArray, List.getElem?_cons_succ, List.getElem?_cons_zero]; rfl) (by kernel_rfl) (by kernel_rfl) (by kernel_rfl) (fun _ _ _ h => h) (Or.inl ⟨by rfl, ?_⟩) (by assumption) ?_
  rotate_left
  · (intro w hSw; (try dsimp only at hSw); go_simp; (try with_reducible rfl))
  (try simp only [Act.put, List.setIfInBounds_toArray, List.set_cons_zero, List.set_cons_succ])
  refine wpAnyH_take (i := 2) (v := ?_) (by simp only [List.getElem?_toArray, List.getElem?_cons_succ, List.getElem?_cons_zero]; rfl) (by kernel_rfl) (by kernel_rfl) (by kernel_rfl) (fun _ _ _ h => h) (Or.inl ⟨by rfl, ?_⟩) (by assumption) ?_
  rotate_left
  · (intro w hSw; (try dsimp only at hSw); go_simp; (try with_reducible rfl))
  (try simp only [Act.put, List.setIfInBounds_toArray, List.set_cons_zero, List.set_cons_succ])
  refine wpAnyH_take (i := 3) (v := ?_) (by simp only [List.getElem?_toArray, List.getElem?_cons_succ, List.getElem?_cons_zero]; rfl) (by kernel_rfl) (by kernel_rfl) (by kernel_rfl) (fun _ _ _ h => h) (Or.inl ⟨by rfl, ?_⟩) (by assumption) ?_
  rotate_left
  · (intro w hSw; (try dsimp only at hSw); go_simp; (try with_reducible rfl))
  (try simp only [Act.put, List.setIfInBounds_toArray, List.set_cons_zero, List.set_cons_succ])
  refine wpAnyH_take (i := 5) (v := ?_) (by simp only [List.getElem?_toArray, List.getElem?_cons_succ, List.getElem?_cons_zero]; rfl) (by kernel_rfl) (by kernel_rfl) (by kernel_rfl) (fun _ _ _ h => h) (Or.inl ⟨by rfl, ?_⟩) (by assumption) ?_
  rotate_left
  · (intro w hSw; (try dsimp only at hSw); go_simp; (try with_reducible rfl))
  (try simp only [Act.put, List.setIfInBounds_toArray, List.set_cons_zero, List.set_cons_succ])
  refine wpAnyH_ready (rs := [4, 6]) (by kernel_rfl) (by simp) ?_
  refine AllReadyH.cons (by simp only [List.getElem?_toArray, List.getElem?_cons_succ, List.getElem?_cons_zero]; rfl) (fun K hK => ?_) (AllReadyH.cons (by simp only [List.getElem?_toArray, List.getElem?_cons_succ, List.getElem?_cons_zero]; rfl) (fun K hK => ?_) AllReadyH.nil)
  · go_simp
    refine hK.out _ _ ?_ (fun hHeld => ?_)
    · exact hHeld
    clear hK K
    (try simp only [Act.put, List.setIfInBounds_toArray, List.set_cons_zero, List.set_cons_succ])
    refine wpAnyH_ready (rs := [6]) (by kernel_rfl) (by simp) ?_
    refine AllReadyH.cons (by simp only [List.getElem?_toArray, List.getElem?_cons_succ, List.getElem?_cons_zero]; rfl) (fun K hK => ?_) AllReadyH.nil
    go_simp
    refine (MK.out _).mono ?_
    rintro ee w' ⟨rfl, rfl⟩
    refine hK.out _ _ ?_ (fun hHeld => ?_)
    · exact hHeld
    clear hK K
    (try simp only [Act.put, List.setIfInBounds_toArray, List.set_cons_zero, List.set_cons_succ])
    refine wpAnyH_take (i := 7) (v := ?_) (by simp only [List.getElem?_toArray, List.getElem?_cons_succ, List.getElem?_cons_zero]; rfl) (by kernel_rfl) (by kernel_rfl) (by kernel_rfl) (fun _ _ _ h => h) (Or.inl ⟨by rfl, ?_⟩) (by assumption) ?_
    rotate_left
    · (intro w hSw; (try dsimp only at hSw); go_simp; (try with_reducible rfl))
    (try simp only [Act.put, List.setIfInBounds_toArray, List.set_cons_zero, List.set_cons_succ])
    refine wpAnyH_take (i := 8) (v := ?_) (by simp only [List.getElem?_toArray, List.getElem?_cons_succ, List.getElem?_cons_zero]; rfl) (by kernel_rfl) (by kernel_rfl) (by kernel_rfl) (fun _ _ _ h => h) (Or.inl ⟨by rfl, ?_⟩) (by assumption) ?_
    rotate_left
    · (intro w hSw; (try dsimp only at hSw); go_simp; (try with_reducible rfl))
    (try simp only [Act.put, List.setIfInBounds_toArray, List.set_cons_zero, List.set_cons_succ])
    refine wpAnyH_ready (rs := [9]) (by kernel_rfl) (by simp) ?_
    refine AllReadyH.cons (by simp only [List.getElem?_toArray, List.getElem?_cons_succ, List.getElem?_cons_zero]; rfl) (fun K hK => ?_) AllReadyH.nil
    have f2 := hHeld.2
    go_simp
    refine hK.out _ _ ?_ (fun hHeld => ?_)
    · exact ⟨HCB.out, HFZ.out⟩
    clear hK K
    (try simp only [Act.put, List.setIfInBounds_toArray, List.set_cons_zero, List.set_cons_succ])
    refine wpAnyH_done (by kernel_rfl) ?_ _
    refine NoPanic.normal ?_
    clear hHeld f1 f2
    go_wp2
    go_ret
    exact ⟨rfl, HP2.out⟩
  · go_simp
    refine (MK.out _).mono ?_
    rintro ee w' ⟨rfl, rfl⟩
    refine hK.out _ _ ?_ (fun hHeld => ?_)
    · exact hHeld
    clear hK K
    (try simp only [Act.put, List.setIfInBounds_toArray, List.set_cons_zero, List.set_cons_succ])
    refine wpAnyH_ready (rs := [4]) (by kernel_rfl) (by simp) ?_
    refine AllReadyH.cons (by simp only [List.getElem?_toArray, List.getElem?_cons_succ, List.getElem?_cons_zero]; rfl) (fun K hK => ?_) AllReadyH.nil
    go_simp
    refine hK.out _ _ ?_ (fun hHeld => ?_)
    · exact hHeld
    clear hK K
    (try simp only [Act.put, List.setIfInBounds_toArray, List.set_cons_zero, List.set_cons_succ])
    refine wpAnyH_take (i := 7) (v := ?_) (by simp only [List.getElem?_toArray, List.getElem?_cons_succ, List.getElem?_cons_zero]; rfl) (by kernel_rfl) (by kernel_rfl) (by kernel_rfl) (fun _ _ _ h => h) (Or.inl ⟨by rfl, ?_⟩) (by assumption) ?_
    rotate_left
    · (intro w hSw; (try dsimp only at hSw); go_simp; (try with_reducible rfl))
    (try simp only [Act.put, List.setIfInBounds_toArray, List.set_cons_zero, List.set_cons_succ])
    refine wpAnyH_take (i := 8) (v := ?_) (by simp only [List.getElem?_toArray, List.getElem?_cons_succ, List.getElem?_cons_zero]; rfl) (by kernel_rfl) (by kernel_rfl) (by kernel_rfl) (fun _ _ _ h => h) (Or.inl ⟨by rfl, ?_⟩) (by assumption) ?_
    rotate_left
    · (intro w hSw; (try dsimp only at hSw); go_simp; (try with_reducible rfl))
    (try simp only [Act.put, List.setIfInBounds_toArray, List.set_cons_zero, List.set_cons_succ])
    refine wpAnyH_ready (rs := [9]) (by kernel_rfl) (by simp) ?_
    refine AllReadyH.cons (by simp only [List.getElem?_toArray, List.getElem?_cons_succ, List.getElem?_cons_zero]; rfl) (fun K hK => ?_) AllReadyH.nil
    have f2 := hHeld.2
    go_simp
    refine hK.out _ _ ?_ (fun hHeld => ?_)
    · exact ⟨HCB.out, HFZ.out⟩
    clear hK K
    (try simp only [Act.put, List.setIfInBounds_toArray, List.set_cons_zero, List.set_cons_succ])
    refine wpAnyH_done (by kernel_rfl) ?_ _
    refine NoPanic.normal ?_
    clear hHeld f1 f2
    go_wp2
    go_ret
    exact ⟨rfl, HP2.out⟩
end Go.Proofs.YtajgmadohhagkaaDoor
