/- A Table in memory: what only reads. -/
import Derived.Test.YtgdkcnpgnmmliabS5
namespace Go.Proofs.Ytgdkcnpgnmmliab
set_option linter.unusedSimpArgs false
set_option linter.unusedVariables false
open Go.RowKit

def szE (L : List En) : Nat := (L.map fun x => x.k.size + x.v.size + 16).sum
structure Tb (w : World) (base gt gs : Nat) (v : Value) (L : List En) : Prop where
  box : Bx2 w gt (.pointer (some ⟨gs, 0, none⟩)) (.int .i64 (szE L : Nat))
  sd : Sd w base gs v L
  lo : base ≤ gt
  n1 : gt ≠ gs
  n2 : v.ownBlock ≠ some gt
theorem Tb.below {w w' : World} {base gt gs : Nat} {v : Value} {L : List En} (h : Tb w base gt gs v L) (hb : Below w.heap.size w w') : Tb w' base gt gs v L :=
  ⟨h.box.keep (hb.block gt h.box.lt), h.sd.below hb, h.lo, h.n1, h.n2⟩
theorem Tb.keep {w w' : World} {base gt gs : Nat} {v : Value} {L : List En} (h : Tb w base gt gs v L) (hk : ∀ k ∈ gt :: gs :: v.ownBlock.toList, w'.heap[k]? = w.heap[k]?) : Tb w' base gt gs v L :=
  ⟨h.box.keep (hk gt (by simp)), h.sd.keep (hk gs (by simp)) (fun k e => hk k (by simp [e])), h.lo, h.n1, h.n2⟩

set_option maxHeartbeats 400000 in
theorem sorted_any (gt gs : Nat) (w : World) (h : w.cell? ⟨gt, 0, none⟩ = some (.pointer (some ⟨gs, 0, none⟩))) :
    Calls Try.prog 37 #[.pointer (some ⟨gt, 0, none⟩)] w fun e w' => e = .returned (.pointer (some ⟨gs, 0, none⟩)) ∧ w = w' := by
  go_enter Try.func37, Try.ntmps37
  go_wp2
  go_ret
  exact ⟨rfl, rfl⟩
set_option maxHeartbeats 400000 in
theorem sorted_nil (w : World) : Calls Try.prog 37 #[.pointer none] w fun e w' => e = .returned (.pointer none) ∧ w = w' := by
  go_enter Try.func37, Try.ntmps37
  go_wp2
  go_ret
  exact ⟨rfl, rfl⟩

set_option maxHeartbeats 1000000 in
theorem from_any (base gt gs : Nat) (v : Value) (L : List En) (x : En) (w : World) (h : Tb w base gt gs v L) (hn6 : (L.length : Int) ≤ 1000000) :
    Calls Try.prog 25 #[.pointer (some ⟨gt, 0, none⟩), x.val] w fun e w' => e = .returned (.int .i64 (pos cmpE L x : Nat)) ∧ Below w.heap.size w w' := by
  have HS := Lib.hid (fun W (hb : Below w.heap.size w W) => sorted_any gt gs W (h.below hb).box.c0)
  have HK := Lib.hid (fun W (hb : Below w.heap.size w W) => seek_any base gs v L x W (h.below hb).sd hn6)
  generalize pos cmpE L x = p at *
  clear h
  go_enter Try.func25, Try.ntmps25
  go_upto_region 1 with fail
  generalize hw0 : w.alloc (.cells #[.string x.k, .int .u64 x.S, .bool x.d, .string x.v] 42) = w0
  have HB0 : Hid (Below w.heap.size w w0) := by rw [← hw0]; exact Lib.hid ((Below.refl _ _).alloc (Nat.le_refl _) _)
  have HX0 : Hid (Bx4 w0 w.heap.size (.string x.k) (.int .u64 x.S) (.bool x.d) (.string x.v)) := by rw [← hw0]; exact Lib.hid (Bx4.new w _ _ _ _ _)
  clear hw0
  generalize hb : w.heap.size = b at *
  have HBb := Lib.hid hb
  clear hb
  have HX := HX0.out
  have hsz : b + 1 ≤ w0.heap.size := HX.lt
  have HT : Hid (∀ wx, Below w0.heap.size w0 wx → wx.cell? ⟨b, 0, none⟩ = some (.string x.k) ∧ wx.cell? ⟨b, 1, none⟩ = some (.int .u64 x.S) ∧ wx.cell? ⟨b, 2, none⟩ = some (.bool x.d) ∧ wx.cell? ⟨b, 3, none⟩ = some (.string x.v)) := Lib.hid fun wx h =>
    ⟨(h.cell (p := ⟨b, 0, none⟩) hsz).trans HX.c0, (h.cell (p := ⟨b, 1, none⟩) hsz).trans HX.c1, (h.cell (p := ⟨b, 2, none⟩) hsz).trans HX.c2, (h.cell (p := ⟨b, 3, none⟩) hsz).trans HX.c3⟩
  clear HX HX0
  refine wp_region_noPanic ?_
  refine wp_region_held_drew (S := (fun wx => Below w0.heap.size w0 wx ∧ wx.cell? ⟨b, 0, none⟩ = some (.string x.k) ∧ wx.cell? ⟨b, 1, none⟩ = some (.int .u64 x.S) ∧ wx.cell? ⟨b, 2, none⟩ = some (.bool x.d) ∧ wx.cell? ⟨b, 3, none⟩ = some (.string x.v))) (by kernel_rfl) (⟨(Below.refl _ _).drew, HT.out _ (Below.refl _ _).drew⟩) (fun hHeld => ?_)
  refine wpAnyH_take (i := 0) (v := ?_) (by simp only [List.getElem?_toArray, List.getElem?_cons_succ, List.getElem?_cons_zero]; rfl) (by kernel_rfl) (by kernel_rfl) (by kernel_rfl) (fun _ _ _ h => h) (Or.inl ⟨by rfl, ?_⟩) (by assumption) ?_
  rotate_left
  · (intro w hSw; (try dsimp only at hSw); go_simp; (try with_reducible rfl))
  (try simp only [Act.put, List.setIfInBounds_toArray, List.set_cons_zero, List.set_cons_succ])
  refine wpAnyH_take (i := 2) (v := ?_) (by simp only [List.getElem?_toArray, List.getElem?_cons_succ, List.getElem?_cons_zero]; rfl) (by kernel_rfl) (by kernel_rfl) (by kernel_rfl) (fun _ _ _ h => h) (Or.inl ⟨by rfl, ?_⟩) (by assumption) ?_
  rotate_left
  · (intro w hSw; (try dsimp only at hSw); go_simp; (try with_reducible rfl))
  (try simp only [Act.put, List.setIfInBounds_toArray, List.set_cons_zero, List.set_cons_succ])
  refine wpAnyH_ready (rs := [1]) (by kernel_rfl) (by simp) ?_
  refine AllReadyH.cons (by simp only [List.getElem?_toArray, List.getElem?_cons_succ, List.getElem?_cons_zero]; rfl) (fun K hK => ?_) AllReadyH.nil
  go_simp
  refine (HS.out _ (HB0.out.trans (hHeld.1.mono (by omega)))).mono ?_
  rintro ee w' ⟨rfl, rfl⟩
  refine hK.out _ _ ?_ (fun hHeld => ?_)
  · exact hHeld
  clear hK K
  (try simp only [Act.put, List.setIfInBounds_toArray, List.set_cons_zero, List.set_cons_succ])
  refine wpAnyH_ready (rs := [3]) (by kernel_rfl) (by simp) ?_
  refine AllReadyH.cons (by simp only [List.getElem?_toArray, List.getElem?_cons_succ, List.getElem?_cons_zero]; rfl) (fun K hK => ?_) AllReadyH.nil
  go_simp
  refine (HK.out _ (HB0.out.trans (hHeld.1.mono (by omega)))).mono ?_
  rintro ee w' ⟨rfl, hb'⟩
  have hB2 := hHeld.1.trans (hb'.mono hHeld.1.size)
  refine hK.out _ _ ?_ (fun hHeld => ?_)
  · exact ⟨hB2, HT.out _ hB2⟩
  clear hK K
  (try simp only [Act.put, List.setIfInBounds_toArray, List.set_cons_zero, List.set_cons_succ])
  refine wpAnyH_take (i := 4) (v := ?_) (by simp only [List.getElem?_toArray, List.getElem?_cons_succ, List.getElem?_cons_zero]; rfl) (by kernel_rfl) (by kernel_rfl) (by kernel_rfl) (fun _ _ _ h => h) (Or.inl ⟨by rfl, ?_⟩) (by assumption) ?_
  rotate_left
  · (intro w hSw; (try dsimp only at hSw); go_simp; (try with_reducible rfl))
  (try simp only [Act.put, List.setIfInBounds_toArray, List.set_cons_zero, List.set_cons_succ])
  refine wpAnyH_done (by kernel_rfl) ?_ _
  refine NoPanic.normal ?_
  have HB9 := Lib.hid (HB0.out.trans (hB2.mono (by omega)))
  clear hB2 hb' hHeld
  go_wp2
  go_ret
  exact ⟨rfl, by rw [HBb.out]; exact HB9.out⟩

/-- What At tells: the entry at a place, or none. -/
def atE (L : List En) (i : Int) : En × Bool := if i < 0 then (zEn, false) else match L[i.toNat]? with | some y => (y, true) | none => (zEn, false)
theorem sat_any (base gs : Nat) (i : Int) (v : Value) (L : List En) (w : World) (h : Sd w base gs v L) (hn6 : (L.length : Int) ≤ 1000000) :
    Calls Try.prog 39 #[.pointer (some ⟨gs, 0, none⟩), .int .i64 i] w fun e w' => e = .returned (.tuple #[(atE L i).1.val, .bool (atE L i).2]) ∧ Below w.heap.size w w' := by
  by_cases h0 : i < 0
  · have e : atE L i = (zEn, false) := by unfold atE; rw [if_pos h0]
    rw [e]
    exact at_out base gs i v L w h hn6 (.inl h0)
  · obtain ⟨k, rfl⟩ : ∃ k : Nat, i = (k : Int) := ⟨i.toNat, by omega⟩
    cases hy : L[k]? with
    | none =>
      have e : atE L k = (zEn, false) := by unfold atE; rw [if_neg h0, Int.toNat_natCast, hy]
      rw [e]
      exact at_out base gs k v L w h hn6 (.inr (by have := List.getElem?_eq_none_iff.1 hy; omega))
    | some y =>
      have e : atE L k = (y, true) := by unfold atE; rw [if_neg h0, Int.toNat_natCast, hy]
      rw [e]
      exact at_in base gs k v L y w h hn6 hy

set_option maxHeartbeats 1000000 in
theorem tat_any (base gt gs : Nat) (i : Int) (v : Value) (L : List En) (w : World) (h : Tb w base gt gs v L) (hn6 : (L.length : Int) ≤ 1000000) :
    Calls Try.prog 24 #[.pointer (some ⟨gt, 0, none⟩), .int .i64 i] w fun e w' => e = .returned (.tuple #[(atE L i).1.val, .bool (atE L i).2]) ∧ Below w.heap.size w w' := by
  have HS := Lib.hid (fun W (hb : Below w.heap.size w W) => sorted_any gt gs W (h.below hb).box.c0)
  have HA := Lib.hid (fun W (hb : Below w.heap.size w W) => sat_any base gs i v L W (h.below hb).sd hn6)
  generalize atE L i = r at *
  obtain ⟨y, ok⟩ := r
  clear h
  go_enter Try.func24, Try.ntmps24
  go_upto_region 1 with fail
  generalize hw0 : w.alloc (.cells #[.string ⟨#[]⟩, .int .u64 0, .bool false, .string ⟨#[]⟩] 42) = w0
  have hb0 : Below w.heap.size w w0 := by rw [← hw0]; exact (Below.refl _ _).alloc (Nat.le_refl _) _
  have X : Bx4 w0 w.heap.size (.string ⟨#[]⟩) (.int .u64 0) (.bool false) (.string ⟨#[]⟩) := by rw [← hw0]; exact Bx4.new w _ _ _ _ _
  have HB0 := Lib.hid hb0
  have HX := Lib.hid X
  clear hw0 hb0 X
  go_wp2_with (first
    | (go_at_call 37; refine (HS.out _ HB0.out).mono ?_; rintro e w' ⟨rfl, rfl⟩)
    | (go_at_call 39; refine (HA.out _ HB0.out).mono ?_; rintro e w1 ⟨rfl, hb1⟩
       have X := HX.out.keep (hb1.block _ HX.out.lt)
       have a0 := X.c0
       have a1 := X.c1
       have a2 := X.c2
       have a3 := X.c3
       have z0 := X.cold 0
       have z1 := X.cold 1
       have z2 := X.cold 2
       have z3 := X.cold 3
       have HB1 := Lib.hid (HB0.out.trans (hb1.mono (Nat.le_of_lt HX.out.lt)))
       clear X hb1))
  have q := (At4.mk a0 a1 a2 a3 z0 z1 z2 z3).set (.string y.k) (.int .u64 y.S) (.bool y.d) (.string y.v)
  have hbw := below_set4 HB1.out (Nat.le_refl _) (.string y.k) (.int .u64 y.S) (.bool y.d) (.string y.v)
  generalize ((((w1.setCell ⟨w.heap.size, 0, none⟩ (.string y.k)).setCell ⟨w.heap.size, 1, none⟩ (.int .u64 y.S)).setCell ⟨w.heap.size, 2, none⟩ (.bool y.d)).setCell ⟨w.heap.size, 3, none⟩ (.string y.v)) = W at q hbw ⊢
  obtain ⟨q0, q1, q2, q3, _, _, _, _⟩ := q
  exact bodyPost_ret (v := .tuple #[y.val, .bool ok]) (by simp [results, Try.results24, go_sem, q0, q1, q2, q3]) rfl ⟨rfl, hbw⟩

set_option maxHeartbeats 400000 in
theorem tlen_any (base gt gs : Nat) (v : Value) (L : List En) (w : World) (h : Tb w base gt gs v L) (hn6 : (L.length : Int) ≤ 1000000) :
    Calls Try.prog 22 #[.pointer (some ⟨gt, 0, none⟩)] w fun e w' => e = .returned (.int .i64 (L.length : Nat)) ∧ w = w' := by
  obtain ⟨A, c, rfl, _, _, _⟩ := own_rdN h.sd.own
  have HS := Lib.hid (sorted_any gt gs w h.box.c0)
  have HL := Lib.hid (len_any gs L.length c A .nilFunc w h.sd.box.c1)
  generalize L.length = n at *
  clear h
  go_enter Try.func22, Try.ntmps22
  go_wp2_with (first
    | (go_at_call 37; refine HS.out.mono ?_; rintro e w' ⟨rfl, rfl⟩)
    | (go_at_call 38; refine HL.out.mono ?_; rintro e w' ⟨rfl, rfl⟩))
  go_ret
  exact ⟨rfl, rfl⟩
set_option maxHeartbeats 400000 in
theorem tsize_any (base gt gs : Nat) (v : Value) (L : List En) (w : World) (h : Tb w base gt gs v L) :
    Calls Try.prog 23 #[.pointer (some ⟨gt, 0, none⟩)] w fun e w' => e = .returned (.int .i64 (szE L : Nat)) ∧ w = w' := by
  have h1 := h.box.c1
  generalize szE L = z at *
  clear h
  go_enter Try.func23, Try.ntmps23
  go_wp2
  go_ret
  exact ⟨rfl, rfl⟩
end Go.Proofs.Ytgdkcnpgnmmliab
