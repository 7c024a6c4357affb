/- Walks: names, List. -/
import Derived.Test.YtahbhaphodgomaaShelf
import Derived.Maps.Ext
namespace Go.Proofs.Ytahbhaphodgomaa
set_option linter.unusedSimpArgs false
set_option linter.unusedVariables false
open Go.Shelf Go.Sort Go.RowKit Go.Maps

theorem Try.info9 : (Try.prog.info? 9).map (fun i => (i.zero, i.size, i.bytes)) = some (some (.string ⟨#[]⟩), 1, 16) := by kernel_rfl
theorem lt_of_before : ∀ a b : List UInt8, bytesBefore a b = true → a < b
  | [], [], h => by simp [bytesBefore] at h
  | [], b :: s, _ => List.nil_lt_cons _ _
  | a :: r, [], h => by simp [bytesBefore] at h
  | a :: r, b :: s, h => by
    simp only [bytesBefore, Bool.or_eq_true, Bool.and_eq_true, decide_eq_true_eq, beq_iff_eq] at h
    rw [List.cons_lt_cons_iff]
    rcases h with h | ⟨rfl, h⟩
    · exact Or.inl h
    · exact Or.inr ⟨rfl, lt_of_before r s h⟩
theorem Dsk.rising {w : World} {base gd bm : Nat} {fs : List File} {room fuse : Nat} {down : Bool} (h : Dsk w base gd (some bm) fs room fuse down) : fs.Pairwise (fun a b => bytesBefore a.name b.name = true) := by
  obtain ⟨es, e, hp, _⟩ := (h.map bm rfl).canon law
  injection e with e
  subst e
  rw [List.pairwise_map] at hp
  exact hp
theorem sorted_names (fs : List File) (h : fs.Pairwise (fun a b => bytesBefore a.name b.name = true)) : (fs.map (·.name)).mergeSort (fun x y => decide (x ≤ y)) = fs.map (·.name) := by
  refine List.mergeSort_of_pairwise ?_
  rw [List.pairwise_map]
  exact h.imp fun h => by simpa using List.le_of_lt (lt_of_before _ _ h)
theorem strKeys_ent (fs : List File) : strKeys (DataW.map (fs.map ent)) = fs.map (·.name) := by
  simp [strKeys, ent, strOf]

set_option maxHeartbeats 1000000 in
set_option maxRecDepth 100000 in
theorem names_any (w : World) (base gd : Nat) (mv : Option Nat) (fs : List File) (room fuse : Nat) (down : Bool) (h : Dsk w base gd mv fs room fuse down) (hfl : fs.length ≤ 1000000) :
    Calls Try.prog 40 #[.pointer (some ⟨gd, 0, none⟩)] w fun e w' => ∃ g cap, e = .returned (.slice (some ⟨g, 0, none⟩) fs.length cap) ∧ fs.length ≤ cap ∧ cap ≤ maxLen ∧
      Buf w' w.heap.size (.slice (some ⟨g, 0, none⟩) fs.length cap) fs.length (fs.map fun f => encStr f.name) ∧ Below w.heap.size w w' := by
  obtain ⟨i0, hi, hz0, hz1, hz2⟩ := info_parts Try.info9
  have hc1 := h.box.c1
  cases mv with
  | none =>
    have hfs := h.none_ rfl
    subst hfs
    have hln := fun ty => Maps.len_nil (w := w) Try.underlying62 ty
    have hrg := fun wx : World => run_range_nilMap (P := Try.prog) wx 62 9 69 Try.underlying62
    have hnx : ∀ (wx : World) ty, (Instr.next (.pointer (some ⟨wx.heap.size, 0, none⟩)) false ty).run Try.prog (wx.alloc (.mapIter none 0 #[] 0)) = _ := fun wx ty => run_next_nilMap wx ty 0 0 #[]
    have hgd := h.box.lt
    have HC1 : Hid (∀ w', w.grownBy w' none → w'.cell? ⟨gd, 1, none⟩ = some (.map none)) := Lib.hid (fun w' hg => (World.cell?_of_block (w := w) (a := ⟨gd, 1, none⟩) (hg.block gd hgd (by simp))).trans hc1)
    clear h
    go_enter Try.func40, Try.ntmps40
    go_wp2_with (first
      | (at_make; refine wpList_make_own _ rfl _ _ 51 rfl w.heap.size 9 i0 (.string ⟨#[]⟩) 1 Try.underlying51 hi hz0 hz1 _ _ _ 0 rfl rfl rfl (by omega) (Nat.zero_le _) (Nat.le_refl _) ?_; intro w1 hrow1 hg1; have hc1' := HC1.out w1 hg1)
      | go_in)
    refine wp_loop_rounds 1 ?_
    rw [rounds_succ]
    have hrowA := hrow1.alloc (.mapIter none 0 #[] 0)
    have hbA := ((Below.refl w.heap.size w).grown hg1 (Nat.le_refl _) (fun j hj => by cases hj)).alloc hg1.size (.mapIter none 0 #[] 0)
    rcases hrowA.2 with ⟨hnil, _⟩ | ⟨g, cap, cur, e, hbase, hb, h1, h2, h3, h4⟩
    · cases hnil
    injection e with e1 e2 e3
    injection e1 with e1
    injection e1 with e4
    subst e4
    subst e3
    clear e2
    have hc := Lib.hid (sort_any w.heap.size 0 [] _ (holds_of_block hb (by simp)) (Array.getElem?_eq_some_iff.1 hb).1 (by simp))
    clear hrowA
    go_wp2_with fail
    refine hc.out.mono ?_
    rintro e w' ⟨rfl, nn, os, rfl⟩
    have hbel := hbA.grown (grownBy_sorted (g := w.heap.size) (n := nn) (os := os) (([] : List (List UInt8)).mergeSort (fun x y => decide (x ≤ y))).toArray) hbA.size (fun j hj => by cases hj; exact Nat.le_refl _)
    have hfin := ownsRow_sorted (w := w1.alloc (.mapIter none 0 #[] 0)) (base := w.heap.size) (cap := 0) (os := os) (n := nn) (ss := []) (ts := ([] : List (List UInt8)).mergeSort (fun x y => decide (x ≤ y))) (by simp) hbase hb h1 h2 h3
    have HFIN := Lib.hid (Buf.of_own hfin)
    have HBEL := Lib.hid hbel
    clear hfin hbel hb
    generalize grow (putRow encStr (Go.Sort.ahead (w1.alloc (.mapIter none 0 #[] 0)) nn) w.heap.size 0 (([] : List (List UInt8)).mergeSort (fun x y => decide (x ≤ y))).toArray) os = w9 at *
    go_wp2_with fail
    go_ret
    exact ⟨w.heap.size, 0, rfl, Nat.le_refl _, Nat.zero_le _, by simpa using HFIN.out, HBEL.out⟩
  | some bm =>
    have hown := h.map bm rfl
    have hbl := hown.lt
    have hris := Lib.hid h.rising
    have HSZ : Hid (Maps.size (DataW.map (fs.map ent)) = fs.length) := Lib.hid (by rw [size_eq, List.length_map])
    have hmax : Maps.size (DataW.map (fs.map ent)) ≤ 1000000 := by rw [HSZ.out]; exact hfl
    have hgd := h.box.lt
    have HC1 : Hid (∀ w', w.grownBy w' none → w'.cell? ⟨gd, 1, none⟩ = some (.map (some bm))) := Lib.hid (fun w' hg => (World.cell?_of_block (w := w) (a := ⟨gd, 1, none⟩) (hg.block gd hgd (by simp))).trans hc1)
    clear h
    generalize hD : DataW.map (fs.map ent) = D0 at *
    have HD := Lib.hid hD
    clear hD
    go_enter Try.func40, Try.ntmps40
    go_wp2_with (first
      | (at_len; refine wpList_len_own _ rfl _ 62 rfl 9 69 Try.underlying62 _ bm fs.length _ rfl hown ?_)
      | (at_make; refine wpList_make_own _ rfl _ _ 51 rfl w.heap.size 9 i0 (.string ⟨#[]⟩) 1 Try.underlying51 hi hz0 hz1 _ _ _ (Maps.size D0) rfl rfl rfl (by rw [hz2]; omega) (by unfold maxLen; omega) (Nat.le_refl _) ?_; intro w1 hrow1 hg1; have hc1' := HC1.out w1 hg1)
      | (at_range; refine wpList_range_own _ rfl _ 62 rfl 9 69 law Try.underlying62 _ bm fs.length _ rfl (hown.kept hg1 (by simp)) ?_; intro w0 hrg0 hg0 hs0)
      | go_in)
    go_frame
    go_loopw [3] (fun v wr => ∃ (left : Lit → Bool) (cnt : Nat) (ss : List (List UInt8)), wr.ranges Try.prog 9 RP bm w1.heap.size fs.length D0 left cnt ∧ ss.length + cnt ≤ Maps.size D0 ∧
        wr.ownsRow w.heap.size 9 1 v ss.length (ss.map encStr) ∧ v ≠ .slice none 0 0 ∧ Collected D0 left ss ∧ Below w.heap.size w wr)
      (fun _ wr => wr.rangeLeft bm w1.heap.size)
    case atStart =>
      exact ⟨_, _, [], hrg0, by simp, hrow1.kept hg0 (Or.inr (by simp [Value.ownBlock])), by simp, Collected.start D0,
        ((Below.refl _ _).grown hg1 (Nat.le_refl _) (fun j hj => by cases hj)).grown hg0 hg1.size (fun j hj => by cases hj)⟩
    case round =>
      obtain ⟨left, cnt, ss, hrg, hcs, hrow, hnn, hC, hnx⟩ := hrel
      go_wp2_with (first
        | (at_next; refine wpList_next_ranges _ rfl _ rfl 9 law RP encStr (fun c : Option Nat => .pointer (c.map fun g => ⟨g, 0, none⟩)) (fun key kl hk => by obtain ⟨x, hx, _⟩ := Maps.keyOf_str Try.underlying9 hk; exact ⟨x, hx⟩) invV bm w1.heap.size fs.length _ _ _ rfl hrg ?_ ?_)
        | go_in)
      · intro hc0 hl0
        rcases hrow.2 with ⟨hnil, _⟩ | ⟨g, cap, cur, rfl, hbase, hb, h1, h2, h3, h4⟩
        · exact absurd hnil hnn
        have hH : Holds encStr wr g 0 ss.toArray := holds_of_block hb (by simpa using h4)
        have hgl : g < wr.heap.size := (Array.getElem?_eq_some_iff.1 hb).1
        have hsl : ss.length ≤ 1000000 := by omega
        have hc := Lib.hid (sort_any g cap ss wr hH hgl (by omega))
        go_wp2_with fail
        refine hc.out.mono ?_
        rintro e w' ⟨rfl, nn, os, rfl⟩
        have hperm := hC.perm hown law Try.underlying9 hl0
        rw [← HD.out, strKeys_ent] at hperm
        have hms : ss.mergeSort (fun x y => decide (x ≤ y)) = fs.map (·.name) := (mergeSort_of_perm hperm).trans (sorted_names fs hris.out)
        have hlen : ss.length = fs.length := by rw [hperm.length_eq, List.length_map]
        have hfin := ownsRow_sorted (os := os) (n := nn) (ss := ss) (ts := ss.mergeSort (fun x y => decide (x ≤ y))) (by simp) hbase hb h1 h2 h3
        have hbel := hnx.grown (grownBy_sorted (n := nn) (os := os) (ss.mergeSort (fun x y => decide (x ≤ y))).toArray) hnx.size (fun j hj => by cases hj; exact hbase)
        have HFIN := Lib.hid (Buf.of_own hfin)
        have HBEL := Lib.hid hbel
        clear hfin hbel
        generalize grow (putRow encStr (Go.Sort.ahead wr nn) g 0 (ss.mergeSort (fun x y => decide (x ≤ y))).toArray) os = w9 at *
        have HL := Lib.hid hlen
        have HM := Lib.hid hms
        clear hlen hms hperm hH hb h3 h4 hrow hrg
        go_wp2_with fail
        go_ret
        refine ⟨g, cap, by rw [HL.out]; rfl, by rw [← HL.out]; exact h1, h2, ?_, HBEL.out⟩
        have := HFIN.out
        rw [HM.out, HL.out, List.map_map] at this
        exact this
      · intro x c kl yd yp w2 cnt2 hkey hlk hv hat hrg2 hlt hg2 hs2 hen
        obtain ⟨x', ex, rfl, _⟩ := Maps.keyOf_str Try.underlying9 hkey
        obtain rfl : x = x' := encStr_inj ex
        have hrow2 := hrow.kept hg2 (Or.inr (row_ne_iter hrow hrg).symm)
        clear hs2
        go_wp2_with (first
          | (at_builtin; refine wpList_append_own _ rfl _ _ 51 rfl w.heap.size 9 i0 (.string ⟨#[]⟩) 1 16 Try.underlying51 hi hz0 hz1 hz2 rfl (by decide) _ _ _ rfl (hrow2.alloc _) ⟨w2.heap.size, 0, none⟩ 1 1 [encStr x] rfl rfl (cell_one_new _ _ _) (by simp [Value.oneCell', encStr]) (by unfold maxLen at *; omega) (by omega) (by have := hnx.size; have := hg2.size; simp; omega) ?_; intro v' w3 hown' hg3 hnil3)
          | go_in)
        have hrg3 := (hrg2.alloc _).kept hg3 (row_ne_low hrow2 hbl) (row_ne_iter hrow2 hrg2)
        go_roundw
        case rel =>
          refine ⟨_, cnt2, ss ++ [x], hrg3, by simp; omega, by simpa using hown', fun hv' => by have := (hnil3.1 hv').2; omega, hC.step hlk hat, ?_⟩
          exact ((hnx.grown hg2 hnx.size (fun j hj => by cases hj; exact hg1.size)).alloc (by have := hnx.size; have := hg2.size; omega) _).grown hg3 (by have := hnx.size; have := hg2.size; simp; omega) (fun j hj => (hrow2.lt j hj).1)
        case measure => rw [hrg3.left_eq, hrg.left_eq]; exact hlt
end Go.Proofs.Ytahbhaphodgomaa
