/- Walks: putText, Entry.Put. -/
import Derived.Test.YtahbhaphodgomacK5
import Derived.Test.YtahbhaphodgomacAppS
namespace Go.Proofs.Ytahbhaphodgomac
set_option linter.unusedSimpArgs false
set_option linter.unusedVariables false
open Go.RowKit

/-- A text with its length ahead. -/
def txtB (s : List Nat) : List Nat := M.putB s.length ++ s
theorem txtB_len (s : List Nat) : (txtB s).length = M.sz s.length + s.length := by simp [txtB, M.putB_len]
theorem txtB_lt (s : List Nat) (hs : ∀ c ∈ s, c < 256) : ∀ c ∈ txtB s, c < 256 := by
  intro c hc
  simp only [txtB, List.mem_append] at hc
  rcases hc with hc | hc
  · exact M.putB_lt _ c hc
  · exact hs c hc

set_option maxHeartbeats 400000 in
set_option maxRecDepth 100000 in
theorem putText_any (s : List Nat) (hs : ∀ c ∈ s, c < 256) (hl : s.length ≤ 1000000) (w : World) (base : Nat) {v : Value} {n : Nat} {xs : List Value} (hbuf : Buf w base v n xs) (hn : n ≤ 100000000) (hbase : base ≤ w.heap.size) :
    Calls Try.prog 24 #[v, .string (strB s)] w fun e w' => ∃ v', e = .returned v' ∧ Laid w base v w' v' (n + (M.sz s.length + s.length)) (xs ++ bys (txtB s)) := by
  obtain ⟨i0, hi, hz0, hz1, hz2⟩ := info_parts Try.info5
  have hsz : (strB s).size = s.length := strB_size s
  have hp10 := M.sz_le s.length (by omega)
  have HP := Lib.hid (fun w base v n xs hb hn hbase => put_any (s.length : Int) (by omega) (by omega) w base (v := v) (n := n) (xs := xs) hb hn hbase)
  have HS := Lib.hid hs
  clear hs
  go_enter Try.func24, Try.ntmps24
  go_wp2_with fail
  refine (HP.out w base v n xs hbuf (by omega) hbase).mono ?_
  rintro e w1 ⟨v1, rfl, hl1⟩
  rw [Int.toNat_natCast] at hl1
  have hb1 : base ≤ w1.heap.size := Nat.le_trans hbase hl1.grown.size
  go_wp2_with (at_builtin; refine wpList_append_bufstr _ rfl (.tmp 9) (.tmp 10) 33 9 rfl base 5 i0 (.int .u8 0) Try.underlying33 Try.underlying9 hi hz0 hz1 hz2 rfl rfl hl1.buf s HS.out rfl ?b1 ?b2 hb1 ?next)
  case b1 => unfold maxLen; omega
  case b2 => omega
  case next =>
    intro v' w' r1 r2 r3
    have hl2 := hl1.trans ⟨r1, r2, r3⟩
    clear r1 r2 r3
    go_wp2
    go_ret
    refine ⟨v', rfl, ?_⟩
    rw [txtB, bys_app, ← Nat.add_assoc]
    first | exact hl2 | (rw [List.append_assoc] at hl2; exact hl2)

/-- An entry's bytes. -/
def entB (k : List Nat) (S : Nat) (d : Bool) (u : List Nat) : List Nat := txtB (M.inner k S d) ++ txtB u
theorem entB_lt (k : List Nat) (S : Nat) (d : Bool) (u : List Nat) (hk : ∀ c ∈ k, c < 256) (hu : ∀ c ∈ u, c < 256) : ∀ c ∈ entB k S d u, c < 256 := by
  intro c hc
  simp only [entB, List.mem_append] at hc
  rcases hc with hc | hc
  · exact txtB_lt _ (M.inner_lt k S d hk) c hc
  · exact txtB_lt _ hu c hc

section
variable {w w' : World} {g : Nat} {a b c d : Value}
theorem box_below (h : w.cell? ⟨g, 0, none⟩ = some a ∧ w.cell? ⟨g, 1, none⟩ = some b ∧ w.cell? ⟨g, 2, none⟩ = some c ∧ w.cell? ⟨g, 3, none⟩ = some d) {B : Nat} (hb : Below B w w') (hg : g < B) :
    w'.cell? ⟨g, 0, none⟩ = some a ∧ w'.cell? ⟨g, 1, none⟩ = some b ∧ w'.cell? ⟨g, 2, none⟩ = some c ∧ w'.cell? ⟨g, 3, none⟩ = some d :=
  ⟨(hb.cell (p := ⟨g, 0, none⟩) hg).trans h.1, (hb.cell (p := ⟨g, 1, none⟩) hg).trans h.2.1, (hb.cell (p := ⟨g, 2, none⟩) hg).trans h.2.2.1, (hb.cell (p := ⟨g, 3, none⟩) hg).trans h.2.2.2⟩
theorem box_grown (h : w.cell? ⟨g, 0, none⟩ = some a ∧ w.cell? ⟨g, 1, none⟩ = some b ∧ w.cell? ⟨g, 2, none⟩ = some c ∧ w.cell? ⟨g, 3, none⟩ = some d) {row : Option Nat} (hg : w.grownBy w' row) (hlt : g < w.heap.size) (hne : row ≠ some g) :
    w'.cell? ⟨g, 0, none⟩ = some a ∧ w'.cell? ⟨g, 1, none⟩ = some b ∧ w'.cell? ⟨g, 2, none⟩ = some c ∧ w'.cell? ⟨g, 3, none⟩ = some d := by
  have hk := hg.block g hlt (fun e => hne e.symm)
  exact ⟨(World.cell?_of_block (w := w) hk).trans h.1, (World.cell?_of_block (w := w) hk).trans h.2.1, (World.cell?_of_block (w := w) hk).trans h.2.2.1, (World.cell?_of_block (w := w) hk).trans h.2.2.2⟩
end

theorem Laid.before {w w2 w4 : World} {base : Nat} {v v4 : Value} {n : Nat} {xs : List Value} (hg : w.grownBy w2 v.ownBlock) (h : Laid w2 base v w4 v4 n xs) : Laid w base v w4 v4 n xs :=
  ⟨h.buf, hg.trans h.grown, h.own.imp id fun e k hk => Nat.le_trans hg.size (e k hk)⟩
theorem grownBy_below {w w' : World} (h : Below w.heap.size w w') (row : Option Nat) : w.grownBy w' row := ⟨h.os, h.tape, h.output, h.size, fun k hk _ => h.block k hk⟩

set_option maxHeartbeats 1000000 in
set_option maxRecDepth 100000 in
theorem entPut_any (k : List Nat) (hk : ∀ c ∈ k, c < 256) (S : Nat) (d : Bool) (u : List Nat) (hu : ∀ c ∈ u, c < 256) (hkl : k.length ≤ 1000) (hul : u.length ≤ 100000) (hS : S ≤ 72057594037927935)
    (w : World) (base : Nat) {v : Value} {n : Nat} {xs : List Value} (hbuf : Buf w base v n xs) (hn : n ≤ 10000000) (hbase : base ≤ w.heap.size) :
    Calls Try.prog 15 #[ent (strB k) S d (strB u), v] w fun e w' => ∃ v', e = .returned v' ∧ Laid w base v w' v' (n + (entB k S d u).length) (xs ++ bys (entB k S d u)) := by
  have IN := Lib.hid (inner_any k hk (by omega) S (by omega) d (strB u))
  have HIL := Lib.hid (M.inner_lt k S d hk)
  have HUL := Lib.hid hu
  have hil := M.inner_len k S d
  have hel := M.esc_len k
  have hs10 := M.sz_le (M.inner k S d).length (by omega)
  have hIL : (M.inner k S d).length ≤ 3000 := by omega
  have hne : v.ownBlock ≠ some w.heap.size := fun h => by have := (hbuf.lt _ h).2; omega
  have hc := boxed w (.string (strB k)) (.int .u64 (S : Int)) (.bool d) (.string (strB u)) 24
  have hbuf1 := (hbuf.alloc (.cells #[.string (strB k), .int .u64 (S : Int), .bool d, .string (strB u)] 24)).drew
  have hlt1 : ∀ q, v.ownBlock = some q → q < (w.alloc (.cells #[.string (strB k), .int .u64 (S : Int), .bool d, .string (strB u)] 24)).drew.heap.size := fun q hq => (hbuf1.lt q hq).2
  have hgr0 : w.grownBy (w.alloc (.cells #[.string (strB k), .int .u64 (S : Int), .bool d, .string (strB u)] 24)).drew v.ownBlock := by
    have := World.grownBy_alloc w (.cells #[.string (strB k), .int .u64 (S : Int), .bool d, .string (strB u)] 24) v.ownBlock
    exact ⟨this.os, this.tape, this.output, this.size, this.block⟩
  clear hk hu hil hel
  unfold ent
  go_enter Try.func15, Try.ntmps15
  go_upto_region 1 with fail
  refine wp_region_noPanic ?_
  refine wp_region_held_drew (S := (fun w' => w'.cell? ⟨w.heap.size, 0, none⟩ = some (.string (strB k)) ∧ w'.cell? ⟨w.heap.size, 1, none⟩ = some (.int .u64 (S : Int)) ∧ w'.cell? ⟨w.heap.size, 2, none⟩ = some (.bool d) ∧ w'.cell? ⟨w.heap.size, 3, none⟩ = some (.string (strB u)))) (by kernel_rfl) (hc) (fun hHeld => ?_)
  refine wpAnyH_take (i := 0) (v := ?_) (by simp only [List.getElem?_toArray, List.getElem?_cons_succ, List.getElem?_cons_zero]; rfl) (by kernel_rfl) (by kernel_rfl) (by kernel_rfl) (fun _ _ _ h => h) (Or.inl ⟨by rfl, ?_⟩) (by assumption) ?_
  rotate_left
  · (intro w hSw; (try dsimp only at hSw); go_simp; (try with_reducible rfl))
  (try simp only [Act.put, List.setIfInBounds_toArray, List.set_cons_zero, List.set_cons_succ])
  refine wpAnyH_take (i := 1) (v := ?_) (by simp only [List.getElem?_toArray, List.getElem?_cons_succ, List.getElem?_cons_zero]; rfl) (by kernel_rfl) (by kernel_rfl) (by kernel_rfl) (fun _ _ _ h => h) (Or.inl ⟨by rfl, ?_⟩) (by assumption) ?_
  rotate_left
  · (intro w hSw; (try dsimp only at hSw); go_simp; (try with_reducible rfl))
  (try simp only [Act.put, List.setIfInBounds_toArray, List.set_cons_zero, List.set_cons_succ])
  refine wpAnyH_take (i := 4) (v := ?_) (by simp only [List.getElem?_toArray, List.getElem?_cons_succ, List.getElem?_cons_zero]; rfl) (by kernel_rfl) (by kernel_rfl) (by kernel_rfl) (fun _ _ _ h => h) (Or.inl ⟨by rfl, ?_⟩) (by assumption) ?_
  rotate_left
  · (intro w hSw; (try dsimp only at hSw); go_simp; (try with_reducible rfl))
  (try simp only [Act.put, List.setIfInBounds_toArray, List.set_cons_zero, List.set_cons_succ])
  refine wpAnyH_take (i := 5) (v := ?_) (by simp only [List.getElem?_toArray, List.getElem?_cons_succ, List.getElem?_cons_zero]; rfl) (by kernel_rfl) (by kernel_rfl) (by kernel_rfl) (fun _ _ _ h => h) (Or.inl ⟨by rfl, ?_⟩) (by assumption) ?_
  rotate_left
  · (intro w hSw; (try dsimp only at hSw); go_simp; (try with_reducible rfl))
  (try simp only [Act.put, List.setIfInBounds_toArray, List.set_cons_zero, List.set_cons_succ])
  refine wpAnyH_ready (rs := [2]) (by kernel_rfl) (by simp) ?_
  refine AllReadyH.cons (by simp only [List.getElem?_toArray, List.getElem?_cons_succ, List.getElem?_cons_zero]; rfl) (fun K hK => ?_) AllReadyH.nil
  go_simp
  refine (IN.out _).mono ?_
  rintro q w2 ⟨rfl, hb2⟩
  go_simp
  refine hK.out _ _ ?_ (fun hHeld => ?_)
  · exact box_below hHeld hb2 (by show w.heap.size < (w.alloc _).drew.heap.size; show w.heap.size < (w.alloc _).heap.size; simp)
  clear hK K
  (try simp only [Act.put, List.setIfInBounds_toArray, List.set_cons_zero, List.set_cons_succ])
  have hbuf2 := hbuf1.below hb2 hlt1
  have hs2 : w.heap.size + 1 ≤ w2.heap.size := by have := hb2.size; have e1 : (w.alloc (.cells #[.string (strB k), .int .u64 (S : Int), .bool d, .string (strB u)] 24)).drew.heap.size = w.heap.size + 1 := by show (w.alloc _).heap.size = _; simp
                                                  omega
  refine wpAnyH_ready (rs := [3]) (by kernel_rfl) (by simp) ?_
  refine AllReadyH.cons (by simp only [List.getElem?_toArray, List.getElem?_cons_succ, List.getElem?_cons_zero]; rfl) (fun K hK => ?_) AllReadyH.nil
  go_simp
  refine (putText_any (M.inner k S d) HIL.out (by omega) w2 base hbuf2 (by omega) (by omega)).mono ?_
  rintro q w3 ⟨v3, rfl, hl3⟩
  go_simp
  refine hK.out _ _ ?_ (fun hHeld => ?_)
  · exact box_grown hHeld hl3.grown (by omega) hne
  clear hK K
  (try simp only [Act.put, List.setIfInBounds_toArray, List.set_cons_zero, List.set_cons_succ])
  have hne3 : v3.ownBlock ≠ some w.heap.size := by
    intro hv
    rcases hl3.own with e1 | e1
    · exact hne (by rw [← e1]; exact hv)
    · have := e1 _ hv; omega
  have hs3 := hl3.grown.size
  refine wpAnyH_ready (rs := [6]) (by kernel_rfl) (by simp) ?_
  refine AllReadyH.cons (by simp only [List.getElem?_toArray, List.getElem?_cons_succ, List.getElem?_cons_zero]; rfl) (fun K hK => ?_) AllReadyH.nil
  go_simp
  refine (putText_any u HUL.out (by omega) w3 base hl3.buf (by omega) (by omega)).mono ?_
  rintro q w4 ⟨v4, rfl, hl4⟩
  go_simp
  refine hK.out _ _ ?_ (fun hHeld => ?_)
  · exact box_grown hHeld hl4.grown (by omega) hne3
  clear hK K
  (try simp only [Act.put, List.setIfInBounds_toArray, List.set_cons_zero, List.set_cons_succ])
  refine wpAnyH_take (i := 7) (v := ?_) (by simp only [List.getElem?_toArray, List.getElem?_cons_succ, List.getElem?_cons_zero]; rfl) (by kernel_rfl) (by kernel_rfl) (by kernel_rfl) (fun _ _ _ h => h) (Or.inl ⟨by rfl, ?_⟩) (by assumption) ?_
  rotate_left
  · (intro w hSw; (try dsimp only at hSw); go_simp; (try with_reducible rfl))
  (try simp only [Act.put, List.setIfInBounds_toArray, List.set_cons_zero, List.set_cons_succ])
  refine wpAnyH_done (by kernel_rfl) ?_ _
  refine NoPanic.normal ?_
  go_wp2_with fail
  go_ret
  refine ⟨v4, rfl, ?_⟩
  have hl := Laid.before (hgr0.trans (grownBy_below hb2 _)) (hl3.trans hl4)
  have e1 : (entB k S d u).length = (M.sz (M.inner k S d).length + (M.inner k S d).length) + (M.sz u.length + u.length) := by simp [entB, txtB_len]
  rw [e1, entB, bys_app, ← Nat.add_assoc]
  first | exact hl | (rw [List.append_assoc] at hl; exact hl)
end Go.Proofs.Ytahbhaphodgomac
