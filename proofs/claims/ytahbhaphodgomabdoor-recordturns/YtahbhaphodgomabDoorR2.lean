/- Walks: slices.Grow as laying; record.Put. -/
import Derived.Test.YtahbhaphodgomabDoorR1
namespace Go.Proofs.YtahbhaphodgomabDoor
set_option linter.unusedSimpArgs false
set_option linter.unusedVariables false
open Go.RowKit

theorem grow_any (m : Nat) (w : World) (base : Nat) {v : Value} {n : Nat} {xs : List Value} (hbuf : Buf w base v n xs) (hn : n + m ≤ 1000000000) (hm : 0 < m) (hbase : base ≤ w.heap.size) :
    Calls Tryd.prog 18 #[v, .int .i64 (m : Int)] w fun e w' => ∃ g off c, e = .returned (.slice (some ⟨g, off, none⟩) n c) ∧ n + m ≤ c ∧ Laid w base v w' (.slice (some ⟨g, off, none⟩) n c) n xs := by
  have main : ∀ (A : Option Addr) (c : Nat) (cs : List Value), v = .slice A n c → n ≤ c → c < n + m → cs.length = c → (Builtin.firstCells 1 c (.slice A c c)).run Tryd.prog w.drew = .ok cs.toArray w.drew → cs.take n = xs →
      Calls Tryd.prog 18 #[v, .int .i64 (m : Int)] w fun e w' => ∃ g off c, e = .returned (.slice (some ⟨g, off, none⟩) n c) ∧ n + m ≤ c ∧ Laid w base v w' (.slice (some ⟨g, off, none⟩) n c) n xs := by
    intro A c cs hv hnc hlt hcl hold htake
    subst hv
    refine (grow_more A n c m cs w hnc hlt (by omega) hcl hold).mono ?_
    rintro e w' ⟨rfl, rfl⟩
    have hge := grownCap_ge w (n + m) c 5
    have hle := grownCap_le_maxLen w (n + m) c 5 (by unfold maxLen; omega)
    refine ⟨_, _, _, rfl, hge, ?_, ⟨rfl, rfl, rfl, by simp, fun k hk _ => Below.heap_alloc w.drew _ k hk⟩, .inr fun k hk => by simp [Value.ownBlock] at hk; omega⟩
    have hz1 : (Value.int IntKind.u8 0).cells.size = 1 := rfl
    have hsize : (cs.toArray ++ Builtin.zeroCells (Value.int .u8 0).cells (n + m - c) ++ Builtin.zeroCells (Value.int .u8 0).cells (grownCap w (n + m) c 5 - (n + m))).size = grownCap w (n + m) c 5 := by
      simp only [Array.size_append, List.size_toArray, size_zeroCells, hz1, hcl]
      omega
    refine Buf.of_own (e := 5) ⟨by rw [hbuf.1, Nat.mul_one], .inr ⟨w.heap.size, _, _, rfl, hbase, heap_alloc_new w.drew _, by omega, hle, by rw [hsize, Nat.mul_one], ?_⟩⟩
    rw [Nat.mul_one, Array.toList_append, Array.toList_append, List.append_assoc]
    have e1 : cs.toArray.toList = cs := rfl
    rw [e1, List.take_append_of_le_length (by omega)]
    exact htake
  rcases hbuf.2 with ⟨rfl, rfl⟩ | ⟨g, off, cap, rfl, hb, hlt, hnc, hcm, hx, hsp⟩
  · have hx0 : xs = [] := List.eq_nil_of_length_eq_zero hbuf.1
    subst hx0
    exact main none 0 [] rfl (Nat.le_refl _) (by omega) rfl (run_firstCells_none w.drew 1 0 0 0) rfl
  · by_cases hroom : n + m ≤ cap
    · refine (grow_room (some ⟨g, off, none⟩) n cap m w hnc hcm hroom).mono ?_
      rintro e w' ⟨rfl, rfl⟩
      exact ⟨g, off, cap, rfl, hroom, Laid.refl hbuf⟩
    · have hsome : ∀ j, j < cap → (w.cell? ⟨g, off + j, none⟩).isSome = true := by
        intro j hj
        by_cases hjn : j < n
        · have hj' : j < xs.length := by rw [hbuf.1]; exact hjn
          rw [hx j _ (List.getElem?_eq_getElem hj')]; rfl
        · exact (hsp j (by omega) hj).1
      have hcs : ∀ j u, ((List.range cap).map fun j => (w.cell? ⟨g, off + j, none⟩).getD undef)[j]? = some u → w.cell? ⟨g, off + j, none⟩ = some u := by
        intro j u hu
        have hj : j < cap := by have := (List.getElem?_eq_some_iff.1 hu).1; simpa using this
        rw [List.getElem?_map, List.getElem?_range hj] at hu
        simp at hu
        obtain ⟨q, hq⟩ := Option.isSome_iff_exists.1 (hsome j hj)
        rw [hq] at hu ⊢
        simpa using hu
      refine main (some ⟨g, off, none⟩) cap ((List.range cap).map fun j => (w.cell? ⟨g, off + j, none⟩).getD undef) rfl hnc (by omega) (by simp) ?_ ?_
      · exact run_firstCells_some (P := Tryd.prog) w.drew 1 cap ⟨g, off, none⟩ cap cap _ (by simp) (fun j u hu => by rw [Addr.add_lit]; exact hcs j u hu)
      · apply List.ext_getElem
        · rw [List.length_take, hbuf.1]; simp; omega
        · intro j h1 h2
          have hj : j < n := by rw [hbuf.1] at h2; exact h2
          rw [List.getElem_take]
          have := hx j _ (List.getElem?_eq_getElem h2)
          simp [this]

/-- Cells laid into the spare room of a slice, and more of it taken. -/
theorem Buf.filled {w : World} {base g off n c : Nat} {xs : List Value} (h : Buf w base (.slice (some ⟨g, off, none⟩) n c) n xs) (ys : List Value) (hc : n + ys.length ≤ c) :
    Buf (w.setCells g (off + n) ys) base (.slice (some ⟨g, off, none⟩) (n + ys.length) c) (n + ys.length) (xs ++ ys) := by
  rcases h.2 with ⟨e, _⟩ | ⟨g', off', cap, e, hb, hlt, hnc, hcm, hx, hsp⟩
  · cases e
  · injection e with e1 e2 e3
    injection e1 with e1
    injection e1 with e4 e5
    subst e4; subst e5; subst e3
    refine ⟨by rw [List.length_append, h.1], .inr ⟨g, off, c, rfl, hb, by rw [size_setCells]; exact hlt, hc, hcm, fun j u hu => ?_, fun j j1 j2 => ?_⟩⟩
    · by_cases hj : j < xs.length
      · rw [List.getElem?_append_left hj] at hu
        rw [World.cell?_setCells_out g ys (off + n) w _ (fun _ _ => .inl (by show off + j < off + n; have := h.1; omega))]
        exact hx j u hu
      · rw [List.getElem?_append_right (by omega)] at hu
        have hjn : j - xs.length < ys.length := (List.getElem?_eq_some_iff.1 hu).1
        have := World.cell?_setCells_in g ys (off + n) w (fun j' hj' => by rw [Nat.add_assoc]; exact (hsp (n + j') (by omega) (by omega)).1) (j - xs.length) hjn
        have hbl := h.1
        rw [show off + n + (j - xs.length) = off + j by omega] at this
        rw [this, ← hu, List.getElem?_eq_getElem hjn]
    · rw [World.cell?_setCells_out g ys (off + n) w _ (fun _ _ => .inr (by show off + n + ys.length ≤ off + j; omega)), World.frozen?_setCells]
      exact hsp j (by omega) j2
/-- Cells laid further on in the spare room leave what there is. -/
theorem Buf.ahead {w : World} {base g off n c : Nat} {xs : List Value} (h : Buf w base (.slice (some ⟨g, off, none⟩) n c) n xs) (k : Nat) (ys : List Value) (hk : n ≤ k) (hc : k + ys.length ≤ c) :
    Buf (w.setCells g (off + k) ys) base (.slice (some ⟨g, off, none⟩) n c) n xs := by
  rcases h.2 with ⟨e, _⟩ | ⟨g', off', cap, e, hb, hlt, hnc, hcm, hx, hsp⟩
  · cases e
  · injection e with e1 e2 e3
    injection e1 with e1
    injection e1 with e4 e5
    subst e4; subst e5; subst e3
    refine ⟨h.1, .inr ⟨g, off, c, rfl, hb, by rw [size_setCells]; exact hlt, hnc, hcm, fun j u hu => ?_, fun j j1 j2 => ?_⟩⟩
    · have hj : j < xs.length := (List.getElem?_eq_some_iff.1 hu).1
      rw [World.cell?_setCells_out g ys (off + k) w _ (fun _ _ => .inl (by show off + j < off + k; have := h.1; omega))]
      exact hx j u hu
    · rw [World.frozen?_setCells]
      refine ⟨?_, (hsp j j1 j2).2⟩
      by_cases hin : off + k ≤ off + j ∧ off + j < off + k + ys.length
      · have := World.cell?_setCells_in g ys (off + k) w (fun j' hj' => by rw [Nat.add_assoc]; exact (hsp (k + j') (by omega) (by omega)).1) (j - k) (by omega)
        rw [show off + k + (j - k) = off + j by omega] at this
        rw [this]; rfl
      · rw [World.cell?_setCells_out g ys (off + k) w _ (fun _ _ => by show off + j < off + k ∨ off + k + ys.length ≤ off + j; omega)]
        exact (hsp j j1 j2).1
end Go.Proofs.YtahbhaphodgomabDoor
