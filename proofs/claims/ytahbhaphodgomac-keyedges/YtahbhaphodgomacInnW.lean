/- The walk of KeyInners. -/
import Derived.Test.YtahbhaphodgomacInnM
import Derived.Test.YtahbhaphodgomacChkW
namespace Go.Proofs.Ytahbhaphodgomac
set_option linter.unusedSimpArgs false
set_option linter.unusedVariables false
open Go.RowKit

/-- Two entries boxed one behind the other. -/
structure At2 (w0 w : World) (a : ByteArray) (S : Int) (d : Bool) (u : ByteArray) (b : ByteArray) (T : Int) (e : Bool) (v : ByteArray) : Prop where
  x4 : At4 w w0.heap.size (.string a) (.int .u64 S) (.bool d) (.string u)
  y4 : At4 w (w0.heap.size + 1) (.string b) (.int .u64 T) (.bool e) (.string v)
  bel : Below w0.heap.size w0 w
section
variable {w0 w w' : World} {a : ByteArray} {S : Int} {d : Bool} {u : ByteArray} {b : ByteArray} {T : Int} {e : Bool} {v : ByteArray}
theorem At2.below (h : At2 w0 w a S d u b T e v) (hb : Below w.heap.size w w') : At2 w0 w' a S d u b T e v :=
  ⟨h.x4.below hb h.x4.lt, h.y4.below hb h.y4.lt, h.bel.trans (hb.mono h.bel.size)⟩
theorem At2.alloc (h : At2 w0 w a S d u b T e v) (o : Obj) : At2 w0 (w.alloc o) a S d u b T e v := h.below ((Below.refl _ _).alloc (Nat.le_refl _) o)
theorem At2.drew (h : At2 w0 w a S d u b T e v) : At2 w0 w.drew a S d u b T e v := ⟨h.x4.drew, h.y4.drew, h.bel.drew⟩
theorem At2.new (w : World) : At2 w ((w.alloc (.cells #[.string a, .int .u64 S, .bool d, .string u] 24)).alloc (.cells #[.string b, .int .u64 T, .bool e, .string v] 24)) a S d u b T e v := by
  have e1 : (w.alloc (.cells #[.string a, .int .u64 S, .bool d, .string u] 24)).heap.size = w.heap.size + 1 := by simp
  refine ⟨(At4.new w _ _ _ _ 24).alloc _, ?_, ((Below.refl _ _).alloc (Nat.le_refl _) _).alloc (by simp) _⟩
  have := At4.new (w.alloc (.cells #[.string a, .int .u64 S, .bool d, .string u] 24)) (.string b) (.int .u64 T) (.bool e) (.string v) 24
  rw [e1] at this
  exact this
end

/-- What makes the law pass an entry by: it is great, or not right. -/
def passBy (k : ByteArray) (S : Int) (d : Bool) (v : ByteArray) : Prop := isBig k v ∨ chk k.size S d v.size ≠ 0

set_option maxHeartbeats 1000000 in
theorem inners_early (a : ByteArray) (S : Int) (d : Bool) (u : ByteArray) (b : ByteArray) (T : Int) (e : Bool) (v : ByteArray)
    (ha : a.size ≤ maxLen) (hu : u.size ≤ maxLen) (hb : b.size ≤ maxLen) (hv : v.size ≤ maxLen) (w : World)
    (h : passBy a S d u ∨ passBy b T e v) :
    Calls Try.prog 4 #[ent a S d u, ent b T e v] w fun r w' => r = .returned (.bool true) ∧ Below w.heap.size w w' := by
  have h0 := At2.new (a := a) (S := S) (d := d) (u := u) (b := b) (T := T) (e := e) (v := v) w
  have bxy := Lib.hid (big_yes a S d u ha hu)
  have byy := Lib.hid (big_yes b T e v hb hv)
  have bxn := Lib.hid (big_no a S d u ha hu)
  have byn := Lib.hid (big_no b T e v hb hv)
  have cx := Lib.hid (check_any a S d u ha hu)
  have cy := Lib.hid (check_any b T e v hb hv)
  clear ha hu hb hv
  have HH := Lib.hid h
  clear h
  obtain ⟨zx, ZX⟩ : ∃ z, Hid (chk a.size S d u.size = z) := ⟨_, Lib.hid rfl⟩
  obtain ⟨zy, ZY⟩ : ∃ z, Hid (chk b.size T e v.size = z) := ⟨_, Lib.hid rfl⟩
  rw [ZX.out] at cx
  rw [ZY.out] at cy
  unfold ent
  go_enter Try.func4, Try.ntmps4
  go_wp2_with fail
  refine (head_any _).mono ?_
  rintro q w1 ⟨rfl, hb1⟩
  have h1 := h0.below hb1
  clear h0 hb1
  obtain ⟨⟨p0, p1, p2, p3, _, _, _, _⟩, _, _⟩ := id h1
  by_cases hx : isBig a u
  · go_wp2_with fail
    refine (bxy.out hx _).mono ?_
    rintro q w2 ⟨rfl, hb2⟩
    have h2 := h1.below hb2
    go_wp2_with fail
    go_ret
    exact ⟨rfl, h2.bel⟩
  · go_wp2_with fail
    refine (bxn.out hx _).mono ?_
    rintro q w2 ⟨rfl, hb2⟩
    have h2 := h1.below hb2
    obtain ⟨_, ⟨y0, y1, y2, y3, _, _, _, _⟩, _⟩ := id h2
    by_cases hy : isBig b v
    · go_wp2_with fail
      refine (byy.out hy _).mono ?_
      rintro q w3 ⟨rfl, hb3⟩
      have h3 := h2.below hb3
      go_wp2_with fail
      go_ret
      exact ⟨rfl, h3.bel⟩
    · go_wp2_with fail
      refine (byn.out hy _).mono ?_
      rintro q w3 ⟨rfl, hb3⟩
      have h3 := h2.below hb3
      clear p0 p1 p2 p3 y0 y1 y2 y3
      obtain ⟨⟨p0, p1, p2, p3, _, _, _, _⟩, _, _⟩ := id h3
      go_wp2_with fail
      refine (cx.out _).mono ?_
      rintro q w4 ⟨rfl, hb4⟩
      have h4 := h3.below hb4
      clear p0 p1 p2 p3
      by_cases hz : zx = 0
      · subst hz
        have hzy : zy ≠ 0 := by
          rcases HH.out with (h | h) | (h | h)
          · exact absurd h hx
          · exact absurd ZX.out h
          · exact absurd h hy
          · rw [ZY.out] at h; exact h
        have hzy' : (zy != 0) = true := by simpa using hzy
        obtain ⟨_, ⟨y0, y1, y2, y3, _, _, _, _⟩, _⟩ := id h4
        go_wp2_with fail
        refine (cy.out _).mono ?_
        rintro q w5 ⟨rfl, hb5⟩
        have h5 := h4.below hb5
        go_wp2_with fail
        go_ret
        exact ⟨rfl, h5.bel⟩
      · have hz' : (zx != 0) = true := by simpa using hz
        go_wp2_with fail
        go_ret
        exact ⟨rfl, h4.bel⟩
end Go.Proofs.Ytahbhaphodgomac
