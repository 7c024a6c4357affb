/- A Sorted of ints in memory: find, Seek, Len, At, Put, Drop, New; a nil one. -/
import Derived.Test.YtgdkcnpgnmmliabI2
import Derived.Test.YtgdkcnpgnmmliabI0
import Derived.Test.YtgdkcnpgnmmliabArm
namespace Go.Proofs.Ytgdkcnpgnmmliab
set_option linter.unusedSimpArgs false
set_option linter.unusedVariables false
open Go.RowKit

structure SdI (w : World) (base gs : Nat) (v : Value) (L : List Nat) : Prop where
  box : Bx2 w gs fOrd v
  own : OwnI w base v L
  lo : base ≤ gs
  ne : v.ownBlock ≠ some gs
  srt : Srt cI L
  sm : ∀ y ∈ L, y < 256
theorem SdI.keep {w w' : World} {base gs : Nat} {v : Value} {L : List Nat} (h : SdI w base gs v L) (k1 : w'.heap[gs]? = w.heap[gs]?) (k2 : ∀ k, v.ownBlock = some k → w'.heap[k]? = w.heap[k]?) : SdI w' base gs v L :=
  ⟨h.box.keep k1, ownN_keep h.own k2, h.lo, h.ne, h.srt, h.sm⟩
theorem SdI.below {w w' : World} {base gs : Nat} {v : Value} {L : List Nat} (h : SdI w base gs v L) (hb : Below w.heap.size w w') : SdI w' base gs v L :=
  h.keep (hb.block gs h.box.lt) fun k hk => hb.block k (h.own.lt k hk).2

theorem equalFdI (d : Nat) (w : World) : (Op.equalIn (d + 1) 25 fOrd .nilFunc).run Try.prog w = .ok false w := by
  simp [Op.equalIn, run_underlying Try.underlying25]
theorem equalFI (w : World) : (Op.equal 25 fOrd .nilFunc).run Try.prog w = .ok false w := equalFdI 9999 w
theorem neqFI (w : World) : (binOp .neq 25 fOrd .nilFunc).run Try.prog w = .ok (.bool true) w := by
  simp only [binOp]
  simp [equalFI]
theorem eqlFI (w : World) : (binOp .eql 25 fOrd .nilFunc).run Try.prog w = .ok (.bool false) w := by
  simp only [binOp]
  simp [equalFI]
theorem equalNdI (d : Nat) (w : World) : (Op.equalIn (d + 1) 25 .nilFunc .nilFunc).run Try.prog w = .ok true w := by
  simp [Op.equalIn, run_underlying Try.underlying25]
theorem equalNI (w : World) : (Op.equal 25 .nilFunc .nilFunc).run Try.prog w = .ok true w := equalNdI 9999 w
theorem eqlNI (w : World) : (binOp .eql 25 .nilFunc .nilFunc).run Try.prog w = .ok (.bool true) w := by
  simp only [binOp]
  simp [equalNI]

set_option maxHeartbeats 400000 in
theorem ordered_anyI (gs : Nat) (v : Value) (w : World) (h : Bx2 w gs fOrd v) :
    Calls Try.prog 27 #[.pointer (some ⟨gs, 0, none⟩)] w fun e w' => e = .returned (.bool true) ∧ w = w' := by
  have h0 := h.c0
  have hF := neqFI w
  clear h
  go_enter Try.func27, Try.ntmps27
  go_wp2
  go_ret
  exact ⟨rfl, rfl⟩
set_option maxHeartbeats 400000 in
theorem len_anyI (gs n c : Nat) (A : Option Addr) (w : World) (h : w.cell? ⟨gs, 1, none⟩ = some (.slice A n c)) :
    Calls Try.prog 11 #[.pointer (some ⟨gs, 0, none⟩)] w fun e w' => e = .returned (.int .i64 (n : Int)) ∧ w = w' := by
  go_enter Try.func11, Try.ntmps11
  go_wp2
  go_ret
  exact ⟨rfl, rfl⟩

set_option maxHeartbeats 1000000 in
theorem find_anyI (base gs : Nat) (v : Value) (L : List Nat) (x : Nat) (w : World) (h : SdI w base gs v L) (hn6 : (L.length : Int) ≤ 1000000) (hx : x < 256) :
    Calls Try.prog 28 #[.pointer (some ⟨gs, 0, none⟩), .int .i64 (x : Int)] w fun e w' =>
      e = .returned (.tuple #[.int .i64 (pos cI L x : Nat), .bool (hit cI L x)]) ∧ Below w.heap.size w w' := by
  obtain ⟨A, c, rfl, hnc, hcm, hr⟩ := own_rdN h.own
  have hgl := h.box.lt
  have HO := Lib.hid (ordered_anyI gs _ w h.box)
  have HBS := Lib.hid (fun W (hb : Below w.heap.size w W) => bs_anyI A c L x W ((hr.below hb).up hb.size) hn6 h.srt h.sm hx)
  have HC := Lib.hid (fun W (hb : Below w.heap.size w W) => And.intro (h.box.keep (hb.block gs hgl)).c0 (h.box.keep (hb.block gs hgl)).c1)
  generalize pos cI L x = p at *
  generalize hit cI L x = H at *
  generalize L.length = n at *
  clear h hr hn6
  go_enter Try.func28, Try.ntmps28
  go_upto_region 3 with (go_at_call 27; refine (HO.out).mono ?_; rintro e w' ⟨rfl, rfl⟩)
  refine wp_region_noPanic ?_
  refine wp_region_held_drew (S := (fun wx => Below w.heap.size w wx ∧ wx.cell? ⟨gs, 0, none⟩ = some fOrd ∧ wx.cell? ⟨gs, 1, none⟩ = some (.slice A n c))) (by kernel_rfl) (⟨(Below.refl _ _).drew, HC.out _ (Below.refl _ _).drew⟩) (fun hHeld => ?_)
  refine wpAnyH_take (i := 0) (v := ?_) (by simp only [List.getElem?_toArray, List.getElem?_cons_succ, List.getElem?_cons_zero]; rfl) (by kernel_rfl) (by kernel_rfl) (by kernel_rfl) (fun _ _ _ h => h) (Or.inl ⟨by rfl, ?_⟩) (by assumption) ?_
  rotate_left
  · (intro w hSw; (try dsimp only at hSw); go_simp; (try with_reducible rfl))
  (try simp only [Act.put, List.setIfInBounds_toArray, List.set_cons_zero, List.set_cons_succ])
  refine wpAnyH_take (i := 1) (v := ?_) (by simp only [List.getElem?_toArray, List.getElem?_cons_succ, List.getElem?_cons_zero]; rfl) (by kernel_rfl) (by kernel_rfl) (by kernel_rfl) (fun _ _ _ h => h) (Or.inl ⟨by rfl, ?_⟩) (by assumption) ?_
  rotate_left
  · (intro w hSw; (try dsimp only at hSw); go_simp; (try with_reducible rfl))
  (try simp only [Act.put, List.setIfInBounds_toArray, List.set_cons_zero, List.set_cons_succ])
  refine wpAnyH_take (i := 2) (v := ?_) (by simp only [List.getElem?_toArray, List.getElem?_cons_succ, List.getElem?_cons_zero]; rfl) (by kernel_rfl) (by kernel_rfl) (by kernel_rfl) (fun _ _ _ h => h) (Or.inl ⟨by rfl, ?_⟩) (by assumption) ?_
  rotate_left
  · (intro w hSw; (try dsimp only at hSw); go_simp; (try with_reducible rfl))
  (try simp only [Act.put, List.setIfInBounds_toArray, List.set_cons_zero, List.set_cons_succ])
  refine wpAnyH_take (i := 3) (v := ?_) (by simp only [List.getElem?_toArray, List.getElem?_cons_succ, List.getElem?_cons_zero]; rfl) (by kernel_rfl) (by kernel_rfl) (by kernel_rfl) (fun _ _ _ h => h) (Or.inl ⟨by rfl, ?_⟩) (by assumption) ?_
  rotate_left
  · (intro w hSw; (try dsimp only at hSw); go_simp; (try with_reducible rfl))
  (try simp only [Act.put, List.setIfInBounds_toArray, List.set_cons_zero, List.set_cons_succ])
  refine wpAnyH_take (i := 4) (v := ?_) (by simp only [List.getElem?_toArray, List.getElem?_cons_succ, List.getElem?_cons_zero]; rfl) (by kernel_rfl) (by kernel_rfl) (by kernel_rfl) (fun _ _ _ h => h) (Or.inl ⟨by rfl, ?_⟩) (by assumption) ?_
  rotate_left
  · (intro w hSw; (try dsimp only at hSw); go_simp; (try with_reducible rfl))
  (try simp only [Act.put, List.setIfInBounds_toArray, List.set_cons_zero, List.set_cons_succ])
  refine wpAnyH_take (i := 5) (v := ?_) (by simp only [List.getElem?_toArray, List.getElem?_cons_succ, List.getElem?_cons_zero]; rfl) (by kernel_rfl) (by kernel_rfl) (by kernel_rfl) (fun _ _ _ h => h) (Or.inl ⟨by rfl, ?_⟩) (by assumption) ?_
  rotate_left
  · (intro w hSw; (try dsimp only at hSw); go_simp; (try with_reducible rfl))
  (try simp only [Act.put, List.setIfInBounds_toArray, List.set_cons_zero, List.set_cons_succ])
  refine wpAnyH_take (i := 6) (v := ?_) (by simp only [List.getElem?_toArray, List.getElem?_cons_succ, List.getElem?_cons_zero]; rfl) (by kernel_rfl) (by kernel_rfl) (by kernel_rfl) (fun _ _ _ h => h) (Or.inl ⟨by rfl, ?_⟩) (by assumption) ?_
  rotate_left
  · (intro w hSw; (try dsimp only at hSw); go_simp; (try with_reducible rfl))
  (try simp only [Act.put, List.setIfInBounds_toArray, List.set_cons_zero, List.set_cons_succ])
  refine wpAnyH_take (i := 7) (v := ?_) (by simp only [List.getElem?_toArray, List.getElem?_cons_succ, List.getElem?_cons_zero]; rfl) (by kernel_rfl) (by kernel_rfl) (by kernel_rfl) (fun _ _ _ h => h) (Or.inl ⟨by rfl, ?_⟩) (by assumption) ?_
  rotate_left
  · (intro w hSw; (try dsimp only at hSw); go_simp; (try with_reducible rfl))
  (try simp only [Act.put, List.setIfInBounds_toArray, List.set_cons_zero, List.set_cons_succ])
  refine wpAnyH_take (i := 8) (v := ?_) (by simp only [List.getElem?_toArray, List.getElem?_cons_succ, List.getElem?_cons_zero]; rfl) (by kernel_rfl) (by kernel_rfl) (by kernel_rfl) (fun _ _ _ h => h) (Or.inl ⟨by rfl, ?_⟩) (by assumption) ?_
  rotate_left
  · (intro w hSw; (try dsimp only at hSw); go_simp; (try with_reducible rfl))
  (try simp only [Act.put, List.setIfInBounds_toArray, List.set_cons_zero, List.set_cons_succ])
  refine wpAnyH_ready (rs := [9]) (by kernel_rfl) (by simp) ?_
  refine AllReadyH.cons (by simp only [List.getElem?_toArray, List.getElem?_cons_succ, List.getElem?_cons_zero]; rfl) (fun K hK => ?_) AllReadyH.nil
  go_simp
  refine (HBS.out _ hHeld.1).mono ?_
  rintro ee w' ⟨rfl, rfl⟩
  refine hK.out _ _ ?_ (fun hHeld => ?_)
  · exact hHeld
  clear hK K
  (try simp only [Act.put, List.setIfInBounds_toArray, List.set_cons_zero, List.set_cons_succ])
  refine wpAnyH_take (i := 10) (v := ?_) (by simp only [List.getElem?_toArray, List.getElem?_cons_succ, List.getElem?_cons_zero]; rfl) (by kernel_rfl) (by kernel_rfl) (by kernel_rfl) (fun _ _ _ h => h) (Or.inl ⟨by rfl, ?_⟩) (by assumption) ?_
  rotate_left
  · (intro w hSw; (try dsimp only at hSw); go_simp; (try with_reducible rfl))
  (try simp only [Act.put, List.setIfInBounds_toArray, List.set_cons_zero, List.set_cons_succ])
  refine wpAnyH_take (i := 11) (v := ?_) (by simp only [List.getElem?_toArray, List.getElem?_cons_succ, List.getElem?_cons_zero]; rfl) (by kernel_rfl) (by kernel_rfl) (by kernel_rfl) (fun _ _ _ h => h) (Or.inl ⟨by rfl, ?_⟩) (by assumption) ?_
  rotate_left
  · (intro w hSw; (try dsimp only at hSw); go_simp; (try with_reducible rfl))
  (try simp only [Act.put, List.setIfInBounds_toArray, List.set_cons_zero, List.set_cons_succ])
  refine wpAnyH_take (i := 12) (v := ?_) (by simp only [List.getElem?_toArray, List.getElem?_cons_succ, List.getElem?_cons_zero]; rfl) (by kernel_rfl) (by kernel_rfl) (by kernel_rfl) (fun _ _ _ h => h) (Or.inl ⟨by rfl, ?_⟩) (by assumption) ?_
  rotate_left
  · (intro w hSw; (try dsimp only at hSw); go_simp; (try with_reducible rfl))
  (try simp only [Act.put, List.setIfInBounds_toArray, List.set_cons_zero, List.set_cons_succ])
  refine wpAnyH_take (i := 13) (v := ?_) (by simp only [List.getElem?_toArray, List.getElem?_cons_succ, List.getElem?_cons_zero]; rfl) (by kernel_rfl) (by kernel_rfl) (by kernel_rfl) (fun _ _ _ h => h) (Or.inl ⟨by rfl, ?_⟩) (by assumption) ?_
  rotate_left
  · (intro w hSw; (try dsimp only at hSw); go_simp; (try with_reducible rfl))
  (try simp only [Act.put, List.setIfInBounds_toArray, List.set_cons_zero, List.set_cons_succ])
  refine wpAnyH_done (by kernel_rfl) ?_ _
  refine NoPanic.normal ?_
  have HB := Lib.hid hHeld.1
  clear hHeld
  go_wp2
  go_ret2
  exact ⟨rfl, HB.out⟩

set_option maxHeartbeats 1000000 in
theorem seek_anyI (base gs : Nat) (v : Value) (L : List Nat) (x : Nat) (w : World) (h : SdI w base gs v L) (hn6 : (L.length : Int) ≤ 1000000) (hx : x < 256) :
    Calls Try.prog 13 #[.pointer (some ⟨gs, 0, none⟩), .int .i64 (x : Int)] w fun e w' =>
      e = .returned (.int .i64 (pos cI L x : Nat)) ∧ Below w.heap.size w w' := by
  have HF := Lib.hid (find_anyI base gs v L x w h hn6 hx)
  generalize pos cI L x = p at *
  generalize hit cI L x = H at *
  clear h
  go_enter Try.func13, Try.ntmps13
  go_wp2_with (go_at_call 28; refine (HF.out).mono ?_; rintro e w' ⟨rfl, hb⟩)
  go_ret
  exact ⟨rfl, hb⟩

/-- What At tells. -/
def atI (L : List Nat) (i : Int) : Nat × Bool := if i < 0 then (0, false) else match L[i.toNat]? with | some y => (y, true) | none => (0, false)
set_option maxHeartbeats 1000000 in
theorem at_anyI (base gs : Nat) (i : Int) (v : Value) (L : List Nat) (w : World) (h : SdI w base gs v L) (hn6 : (L.length : Int) ≤ 1000000) :
    Calls Try.prog 14 #[.pointer (some ⟨gs, 0, none⟩), .int .i64 i] w fun e w' => e = .returned (.tuple #[.int .i64 ((atI L i).1 : Int), .bool (atI L i).2]) ∧ w = w' := by
  obtain ⟨A, c, rfl, hnc, hcm, hr⟩ := own_rdN h.own
  have b1 := h.box.c1
  have HL := Lib.hid (len_anyI gs L.length c A w b1)
  by_cases h0 : i < 0
  · have e : atI L i = (0, false) := by unfold atI; rw [if_pos h0]
    rw [e]
    clear hr h
    generalize L.length = n at *
    go_enter Try.func14, Try.ntmps14
    go_wp2
    go_ret2
    exact ⟨rfl, rfl⟩
  · obtain ⟨k, rfl⟩ : ∃ k : Nat, i = (k : Int) := ⟨i.toNat, by omega⟩
    cases hy : L[k]? with
    | none =>
      have e : atI L k = (0, false) := by unfold atI; rw [if_neg h0, Int.toNat_natCast, hy]
      rw [e]
      have hk := List.getElem?_eq_none_iff.1 hy
      clear hr h hy
      generalize L.length = n at *
      have hk1 : (n : Int) ≤ (k : Int) := by omega
      clear h0
      go_enter Try.func14, Try.ntmps14
      go_wp2_with (go_at_call 11; refine HL.out.mono ?_; rintro e w' ⟨rfl, rfl⟩)
      go_ret2
      exact ⟨rfl, rfl⟩
    | some y =>
      have e : atI L k = (y, true) := by unfold atI; rw [if_neg h0, Int.toNat_natCast, hy]
      rw [e]
      obtain ⟨g, off, rfl, hg, c0⟩ := hr.int k y hy
      have hk : k < L.length := (List.getElem?_eq_some_iff.1 hy).1
      clear hr h hy
      generalize L.length = n at *
      have hk1 : ¬ (n : Int) ≤ (k : Int) := by omega
      clear h0
      go_enter Try.func14, Try.ntmps14
      go_wp2_with (go_at_call 11; refine HL.out.mono ?_; rintro e w' ⟨rfl, rfl⟩)
      go_ret2
      exact ⟨rfl, rfl⟩

theorem mono_set (L : List Nat) (x : Nat) (hS : Srt cI L) (hh : hit cI L x = true) : Srt cI (L.set (pos cI L x) x) := by
  have hm : ∀ M : List Nat, Srt cI M ↔ (M.map (· / 3)).Pairwise (· < ·) := fun M => by
    unfold Srt
    rw [List.pairwise_map]
    constructor
    · exact fun h => h.imp fun {a b} h => (cI_lt a b).1 h
    · exact fun h => h.imp fun {a b} h => (cI_lt a b).2 h
  rw [hm] at hS ⊢
  unfold hit at hh
  split at hh
  · rename_i y hy
    obtain ⟨hp, e⟩ := List.getElem?_eq_some_iff.1 hy
    have hc : y / 3 = x / 3 := (cI_zero y x).1 (by simpa using hh)
    rw [List.map_set]
    have e2 : (L.map (· / 3)).set (pos cI L x) (x / 3) = L.map (· / 3) := by
      apply List.ext_getElem?
      intro j
      rw [List.getElem?_set]
      split
      · rename_i hj
        subst hj
        rw [if_pos (by simpa using hp), List.getElem?_map, hy, ← hc]; rfl
      · rfl
    rw [e2]
    exact hS
  · cases hh
/-- Behind Put. -/
def putL (L : List Nat) (x : Nat) : List Nat := if hit cI L x then L.set (pos cI L x) x else ins cI L x
def PutPostI (w : World) (base gs : Nat) (v : Value) (M : List Nat) (H : Bool) (e : Ending) (w' : World) : Prop :=
  ∃ v', e = .returned (.bool H) ∧ SdI w' base gs v' M ∧ Tch w w' (gs :: v.ownBlock.toList) ∧ (v'.ownBlock = v.ownBlock ∨ ∀ k, v'.ownBlock = some k → w.heap.size ≤ k)

set_option maxHeartbeats 2000000 in
set_option maxRecDepth 100000 in
theorem put_anyI (base gs : Nat) (v : Value) (L : List Nat) (x : Nat) (w : World) (h : SdI w base gs v L) (hbase : base ≤ w.heap.size) (hn6 : (L.length : Int) ≤ 1000000) (hx : x < 256) :
    Calls Try.prog 10 #[.pointer (some ⟨gs, 0, none⟩), .int .i64 (x : Int)] w (PutPostI w base gs v (putL L x) (hit cI L x)) := by
  have hgl := h.box.lt
  have HF := Lib.hid (find_anyI base gs v L x w h hn6 hx)
  have HO := Lib.hid (ordered_anyI gs _ w h.box)
  have hpl := pos_le cI L x
  cases hh : hit cI L x with
  | true =>
    have hms := mono_set L x h.srt hh
    have hpn : pos cI L x < L.length := by
      unfold hit at hh
      split at hh
      · rename_i y hy; exact (List.getElem?_eq_some_iff.1 hy).1
      · cases hh
    rw [show putL L x = L.set (pos cI L x) x by unfold putL; rw [hh]; rfl]
    rw [hh] at HF
    generalize pos cI L x = p at *
    have HP := Lib.hid h
    obtain ⟨A, c, rfl, hnc, hcm, _⟩ := own_rdN h.own
    obtain ⟨g, cap, e, hbg, hg, hncap, hcapm⟩ := own_open h.own (by omega)
    injection e with e1 e2 e3
    subst e1; subst e3
    have HMS := Lib.hid hms
    clear hms h
    obtain ⟨n, hn⟩ : ∃ n, n = L.length := ⟨_, rfl⟩
    rw [← hn] at hnc hn6 hpn ⊢
    have HN := Lib.hid hn
    clear hn hncap
    go_enter Try.func10, Try.ntmps10
    go_upto_region 4 with (first
      | (go_at_call 27; refine (HO.out).mono ?_; rintro e w' ⟨rfl, rfl⟩)
      | (go_at_call 28; refine (HF.out).mono ?_; rintro e w1 ⟨rfl, hb1⟩))
    have hP1 := HP.out.below hb1
    have b1 := hP1.box.c1
    rw [← HN.out] at b1
    have hO1 : w1.ownsRow base 3 1 (.slice (some ⟨g, 0, none⟩) n c) n (cellsI L) := by rw [HN.out]; exact hP1.own
    have hcell := hO1.cellAt p (by omega)
    have hcs : (cellsI L)[p]? = some (.int .i64 ((L.getD p 0 : Nat) : Int)) := by simp [cellsI, List.getD, show p < L.length by rw [← HN.out]; exact hpn]
    rw [hcs] at hcell
    have hcold := hO1.frozenAt p
    obtain ⟨st1, st2⟩ := hO1.stored p (.int .i64 (x : Int))
    have HEND : Hid (PutPostI w base gs (.slice (some ⟨g, 0, none⟩) n c) (L.set p x) true (.returned (.bool true)) (w1.setCell ⟨g, p, none⟩ (.int .i64 (x : Int)))) := Lib.hid (by
      refine ⟨_, rfl, ⟨hP1.box.keep (st2.block gs (by have := hb1.size; omega) (fun e => hP1.ne e.symm)), ?_, hP1.lo, hP1.ne, HMS.out, fun y hy => ?_⟩, ?_, .inl rfl⟩
      · unfold OwnI
        rw [List.length_set, ← HN.out, show cellsI (L.set p x) = (cellsI L).set p (.int .i64 (x : Int)) by simp [cellsI, List.map_set]]
        exact st1
      · rcases List.mem_or_eq_of_mem_set hy with h | h
        · exact hP1.sm y h
        · rw [h]; exact hx
      · refine ⟨st2.os.trans hb1.os, st2.tape.trans hb1.tape, st2.output.trans hb1.output, Nat.le_trans hb1.size st2.size, fun k hk hL => ?_⟩
        rw [st2.block k (Nat.lt_of_lt_of_le hk hb1.size) (fun e => hL (by injection e with e; subst e; simp [Value.ownBlock]))]
        exact hb1.block k hk)
    clear hP1 hO1 hcs st1 st2 hb1 hpl
    generalize L.getD p 0 = z at *
    go_wp2
    go_ret
    exact HEND.out
  | false =>
    have hsrt := h.srt.ins ordI x hh
    rw [show putL L x = ins cI L x by unfold putL; rw [hh]; rfl]
    rw [hh] at HF
    have HI := fun vb W (hb : Below w.heap.size w W) hv hne => ins_anyI base vb (pos cI L x) v L x W hpl hn6 (Nat.le_trans hbase hb.size) (h.below hb).own hv hne
    change ∀ vb W, Below w.heap.size w W → _ → _ → Calls Try.prog 29 _ W (fun e w' => ∃ v', e = .returned v' ∧ OwnI w' base v' (ins cI L x) ∧ W.grownBy w' v.ownBlock ∧ (v'.ownBlock = v.ownBlock ∨ ∀ k, v'.ownBlock = some k → W.heap.size ≤ k)) at HI
    have HI := Lib.hid HI
    have HSM : Hid (∀ y ∈ ins cI L x, y < 256) := Lib.hid fun y hy => by
      rcases (mem_ins L x y).1 hy with h1 | h1
      · rw [h1]; exact hx
      · exact h.sm y h1
    generalize pos cI L x = p at *
    generalize ins cI L x = M at *
    have HP := Lib.hid h
    clear h
    go_enter Try.func10, Try.ntmps10
    go_upto_region 6 with (first
      | (go_at_call 27; refine (HO.out).mono ?_; rintro e w' ⟨rfl, rfl⟩)
      | (go_at_call 28; refine (HF.out).mono ?_; rintro e w1 ⟨rfl, hb1⟩))
    have hP1 := HP.out.below hb1
    have b1 := hP1.box.c1
    obtain ⟨w2, hw2⟩ : ∃ w2, w2 = w1.alloc (.cells #[.int .i64 (x : Int)] 3) := ⟨_, rfl⟩
    have hb2 : Below w1.heap.size w1 w2 := by rw [hw2]; exact (Below.refl _ _).alloc (Nat.le_refl _) _
    have hn2 : w2.heap[w1.heap.size]? = some (.cells #[.int .i64 (x : Int)] 3 (0, 0)) := by rw [hw2]; exact heap_alloc_new w1 _
    have hB2 : Below w.heap.size w w2 := hb1.trans (hb2.mono hb1.size)
    have hvl : ∀ k, v.ownBlock = some k → k < w.heap.size := fun k hk => (HP.out.own.lt k hk).2
    have HINS := Lib.hid (HI.out w1.heap.size w2 hB2 hn2 (fun e => by have := hvl _ e; have := hb1.size; omega))
    have hP2 : SdI w2 base gs v L := hP1.below hb2
    have HFR : Hid (∀ W3, w2.grownBy W3 v.ownBlock → W3.frozen? ⟨gs, 1, none⟩ = false ∧ Bx2 W3 gs fOrd v ∧ W3.cell? ⟨gs, 1, none⟩ = some v) := Lib.hid fun W3 hg => by
      have B3 := hP2.box.keep (hg.block gs hP2.box.lt (fun e => hP2.ne e.symm))
      exact ⟨B3.cold 1, B3, B3.c1⟩
    have HEND : Hid (∀ W3 v', OwnI W3 base v' M → w2.grownBy W3 v.ownBlock → (v'.ownBlock = v.ownBlock ∨ ∀ k, v'.ownBlock = some k → w2.heap.size ≤ k) → PutPostI w base gs v M false (.returned (.bool false)) (W3.setCell ⟨gs, 1, none⟩ v')) := Lib.hid fun W3 v' hO hg hor => by
      have B3 := (HFR.out W3 hg).2.1
      have hgl2 := hP2.box.lt
      have hne : v'.ownBlock ≠ some gs := by
        rcases hor with e | e
        · rw [e]; exact hP2.ne
        · intro hk; have := e gs hk; omega
      have gr := grown_setCell W3 ⟨gs, 1, none⟩ v'
      refine ⟨v', rfl, ⟨B3.set1 v', ownN_keep hO (fun k hk => gr.block k (hO.lt k hk).2 (fun e => hne (by rw [hk]; exact e))), hP2.lo, hne, hsrt, HSM.out⟩, ?_, ?_⟩
      · refine ⟨?_, ?_, ?_, ?_, fun k hk hL => ?_⟩
        · exact (gr.os.trans hg.os).trans hB2.os
        · exact (gr.tape.trans hg.tape).trans hB2.tape
        · exact (gr.output.trans hg.output).trans hB2.output
        · exact Nat.le_trans hB2.size (Nat.le_trans hg.size gr.size)
        · simp only [List.mem_cons, Option.mem_toList, not_or] at hL
          have h2 : k < w2.heap.size := Nat.lt_of_lt_of_le hk hB2.size
          rw [gr.block k (Nat.lt_of_lt_of_le h2 hg.size) (fun e => hL.1 (by injection e)), hg.block k h2 (fun e => hL.2 e.symm)]
          exact hB2.block k hk
      · rcases hor with e | e
        · exact .inl e
        · exact .inr fun k hk => by have := e k hk; have := hB2.size; omega
    clear hP1 hP2 hvl hb2 hn2 hB2 hb1 hpl hsrt
    rw [hw2] at HINS
    go_upto_region 7 with (go_at_call 29; refine (HINS.out).mono ?_; rintro e W3 ⟨v', rfl, hO3, hgr3, hb3⟩; rw [← hw2] at hgr3 hb3; obtain ⟨A3, c3, rfl, _, _, _⟩ := own_rdN hO3; have f2 := (HFR.out W3 hgr3).1; have f3 := (HFR.out W3 hgr3).2.2; have HE := Lib.hid (HEND.out W3 _ hO3 hgr3 hb3); clear hO3 hgr3 hb3)
    go_wp2
    go_ret
    exact HE.out
end Go.Proofs.Ytgdkcnpgnmmliab
