/- The walk of KeyChecks. -/
import Derived.Test.YtahbhaphodgomacK5
import Derived.Test.YtahbhaphodgomacChkM
namespace Go.Proofs.Ytahbhaphodgomac
set_option linter.unusedSimpArgs false
set_option linter.unusedVariables false
open Go.RowKit

theorem big_yes (k : ByteArray) (S : Int) (d : Bool) (v : ByteArray) (hk : k.size ≤ maxLen) (hv : v.size ≤ maxLen) (h : 300 < k.size ∨ 70000 < v.size) (w : World) :
    Calls Try.prog 10 #[ent k S d v] w fun e w' => e = .returned (.bool true) ∧ Below w.heap.size w w' := by
  have := big_any' k S d v hk hv w
  rwa [decide_eq_true h] at this
theorem big_no (k : ByteArray) (S : Int) (d : Bool) (v : ByteArray) (hk : k.size ≤ maxLen) (hv : v.size ≤ maxLen) (h : ¬ (300 < k.size ∨ 70000 < v.size)) (w : World) :
    Calls Try.prog 10 #[ent k S d v] w fun e w' => e = .returned (.bool false) ∧ Below w.heap.size w w' := by
  have := big_any' k S d v hk hv w
  rwa [decide_eq_false h] at this

abbrev isBig (k v : ByteArray) : Prop := 300 < k.size ∨ 70000 < v.size

/-- Three entries boxed one behind the other. -/
structure At3 (w0 w : World) (a : ByteArray) (S : Int) (d : Bool) (u : ByteArray) (b : ByteArray) (T : Int) (e : Bool) (v : ByteArray) (c : ByteArray) (U : Int) (f : Bool) (x : ByteArray) : Prop where
  x4 : At4 w w0.heap.size (.string a) (.int .u64 S) (.bool d) (.string u)
  y4 : At4 w (w0.heap.size + 1) (.string b) (.int .u64 T) (.bool e) (.string v)
  z4 : At4 w (w0.heap.size + 1 + 1) (.string c) (.int .u64 U) (.bool f) (.string x)
  bel : Below w0.heap.size w0 w

section
variable {w0 w w' : World} {a : ByteArray} {S : Int} {d : Bool} {u : ByteArray} {b : ByteArray} {T : Int} {e : Bool} {v : ByteArray} {c : ByteArray} {U : Int} {f : Bool} {x : ByteArray}
theorem At3.below (h : At3 w0 w a S d u b T e v c U f x) (hb : Below w.heap.size w w') : At3 w0 w' a S d u b T e v c U f x :=
  ⟨h.x4.below hb h.x4.lt, h.y4.below hb h.y4.lt, h.z4.below hb h.z4.lt, h.bel.trans (hb.mono h.bel.size)⟩
theorem At3.new (w : World) : At3 w (((w.alloc (.cells #[.string a, .int .u64 S, .bool d, .string u] 24)).alloc (.cells #[.string b, .int .u64 T, .bool e, .string v] 24)).alloc (.cells #[.string c, .int .u64 U, .bool f, .string x] 24)) a S d u b T e v c U f x := by
  have e1 : (w.alloc (.cells #[.string a, .int .u64 S, .bool d, .string u] 24)).heap.size = w.heap.size + 1 := by simp
  have e2 : ((w.alloc (.cells #[.string a, .int .u64 S, .bool d, .string u] 24)).alloc (.cells #[.string b, .int .u64 T, .bool e, .string v] 24)).heap.size = w.heap.size + 1 + 1 := by simp
  refine ⟨((At4.new w _ _ _ _ 24).alloc _).alloc _, ?_, ?_, (((Below.refl _ _).alloc (Nat.le_refl _) _).alloc (by simp) _).alloc (by simp; omega) _⟩
  · have := (At4.new (w.alloc (.cells #[.string a, .int .u64 S, .bool d, .string u] 24)) (.string b) (.int .u64 T) (.bool e) (.string v) 24).alloc (.cells #[.string c, .int .u64 U, .bool f, .string x] 24)
    rw [e1] at this
    exact this
  · have := At4.new ((w.alloc (.cells #[.string a, .int .u64 S, .bool d, .string u] 24)).alloc (.cells #[.string b, .int .u64 T, .bool e, .string v] 24)) (.string c) (.int .u64 U) (.bool f) (.string x) 24
    rw [e2] at this
    exact this
theorem At3.cells (h : At3 w0 w a S d u b T e v c U f x) : w.cell? ⟨w0.heap.size, 0, none⟩ = some (.string a) ∧ w.cell? ⟨w0.heap.size, 1, none⟩ = some (.int .u64 S) ∧ w.cell? ⟨w0.heap.size, 2, none⟩ = some (.bool d) ∧ w.cell? ⟨w0.heap.size, 3, none⟩ = some (.string u) ∧ w.cell? ⟨w0.heap.size + 1, 0, none⟩ = some (.string b) ∧ w.cell? ⟨w0.heap.size + 1, 1, none⟩ = some (.int .u64 T) ∧ w.cell? ⟨w0.heap.size + 1, 2, none⟩ = some (.bool e) ∧ w.cell? ⟨w0.heap.size + 1, 3, none⟩ = some (.string v) ∧ w.cell? ⟨w0.heap.size + 1 + 1, 0, none⟩ = some (.string c) ∧ w.cell? ⟨w0.heap.size + 1 + 1, 1, none⟩ = some (.int .u64 U) ∧ w.cell? ⟨w0.heap.size + 1 + 1, 2, none⟩ = some (.bool f) ∧ w.cell? ⟨w0.heap.size + 1 + 1, 3, none⟩ = some (.string x) ∧ At3 w0 w a S d u b T e v c U f x :=
  ⟨h.x4.c0, h.x4.c1, h.x4.c2, h.x4.c3, h.y4.c0, h.y4.c1, h.y4.c2, h.y4.c3, h.z4.c0, h.z4.c1, h.z4.c2, h.z4.c3, h⟩
theorem At3.again (h : w.cell? ⟨w0.heap.size, 0, none⟩ = some (.string a) ∧ w.cell? ⟨w0.heap.size, 1, none⟩ = some (.int .u64 S) ∧ w.cell? ⟨w0.heap.size, 2, none⟩ = some (.bool d) ∧ w.cell? ⟨w0.heap.size, 3, none⟩ = some (.string u) ∧ w.cell? ⟨w0.heap.size + 1, 0, none⟩ = some (.string b) ∧ w.cell? ⟨w0.heap.size + 1, 1, none⟩ = some (.int .u64 T) ∧ w.cell? ⟨w0.heap.size + 1, 2, none⟩ = some (.bool e) ∧ w.cell? ⟨w0.heap.size + 1, 3, none⟩ = some (.string v) ∧ w.cell? ⟨w0.heap.size + 1 + 1, 0, none⟩ = some (.string c) ∧ w.cell? ⟨w0.heap.size + 1 + 1, 1, none⟩ = some (.int .u64 U) ∧ w.cell? ⟨w0.heap.size + 1 + 1, 2, none⟩ = some (.bool f) ∧ w.cell? ⟨w0.heap.size + 1 + 1, 3, none⟩ = some (.string x) ∧ At3 w0 w a S d u b T e v c U f x) (hb : Below w.heap.size w w') : w'.cell? ⟨w0.heap.size, 0, none⟩ = some (.string a) ∧ w'.cell? ⟨w0.heap.size, 1, none⟩ = some (.int .u64 S) ∧ w'.cell? ⟨w0.heap.size, 2, none⟩ = some (.bool d) ∧ w'.cell? ⟨w0.heap.size, 3, none⟩ = some (.string u) ∧ w'.cell? ⟨w0.heap.size + 1, 0, none⟩ = some (.string b) ∧ w'.cell? ⟨w0.heap.size + 1, 1, none⟩ = some (.int .u64 T) ∧ w'.cell? ⟨w0.heap.size + 1, 2, none⟩ = some (.bool e) ∧ w'.cell? ⟨w0.heap.size + 1, 3, none⟩ = some (.string v) ∧ w'.cell? ⟨w0.heap.size + 1 + 1, 0, none⟩ = some (.string c) ∧ w'.cell? ⟨w0.heap.size + 1 + 1, 1, none⟩ = some (.int .u64 U) ∧ w'.cell? ⟨w0.heap.size + 1 + 1, 2, none⟩ = some (.bool f) ∧ w'.cell? ⟨w0.heap.size + 1 + 1, 3, none⟩ = some (.string x) ∧ At3 w0 w' a S d u b T e v c U f x := by
  obtain ⟨_, _, _, _, _, _, _, _, _, _, _, _, h⟩ := h
  exact (h.below hb).cells
theorem At3.drew (h : At3 w0 w a S d u b T e v c U f x) : At3 w0 w.drew a S d u b T e v c U f x := ⟨h.x4.drew, h.y4.drew, h.z4.drew, h.bel.drew⟩
theorem At3.drewN (h : At3 w0 w a S d u b T e v c U f x) (n : Nat) : At3 w0 (w.drewN n) a S d u b T e v c U f x := by
  refine ⟨?_, ?_, ?_, Below.drewN' h.bel n⟩
  · exact ⟨h.x4.c0, h.x4.c1, h.x4.c2, h.x4.c3, h.x4.f0, h.x4.f1, h.x4.f2, h.x4.f3⟩
  · exact ⟨h.y4.c0, h.y4.c1, h.y4.c2, h.y4.c3, h.y4.f0, h.y4.f1, h.y4.f2, h.y4.f3⟩
  · exact ⟨h.z4.c0, h.z4.c1, h.z4.c2, h.z4.c3, h.z4.f0, h.z4.f1, h.z4.f2, h.z4.f3⟩
end

set_option maxHeartbeats 1000000 in
theorem checks_early (a : ByteArray) (S : Int) (d : Bool) (u : ByteArray) (b : ByteArray) (T : Int) (e : Bool) (v : ByteArray) (c : ByteArray) (U : Int) (f : Bool) (x : ByteArray)
    (ha : a.size ≤ maxLen) (hu : u.size ≤ maxLen) (hb : b.size ≤ maxLen) (hv : v.size ≤ maxLen) (hc : c.size ≤ maxLen) (hx : x.size ≤ maxLen) (w : World)
    (h : isBig a u ∨ isBig b v ∨ isBig c x) :
    Calls Try.prog 3 #[ent a S d u, ent b T e v, ent c U f x] w fun r w' => r = .returned (.bool true) ∧ Below w.heap.size w w' := by
  have h0 := At3.new (a := a) (S := S) (d := d) (u := u) (b := b) (T := T) (e := e) (v := v) (c := c) (U := U) (f := f) (x := x) w
  have bxy := Lib.hid (big_yes a S d u ha hu)
  have byy := Lib.hid (big_yes b T e v hb hv)
  have bzy := Lib.hid (big_yes c U f x hc hx)
  have bxn := Lib.hid (big_no a S d u ha hu)
  have byn := Lib.hid (big_no b T e v hb hv)
  clear ha hu hb hv hc hx
  have HH := Lib.hid h
  clear h
  unfold ent
  go_enter Try.func3, Try.ntmps3
  go_wp2_with fail
  refine (head_any _).mono ?_
  rintro q w1 ⟨rfl, hb1⟩
  have h1 := h0.below hb1
  clear h0 hb1
  obtain ⟨⟨p0, p1, p2, p3, _, _, _, _⟩, _, _, _⟩ := id h1
  by_cases hx : isBig a u
  · go_wp2_with fail
    refine (bxy.out hx _).mono ?_
    rintro q w2 ⟨rfl, hb2⟩
    have h2 := h1.below hb2
    go_wp2_with fail
    go_ret
    exact ⟨rfl, h2.bel⟩
  · go_wp2_with fail
    refine (bxn.out hx _).mono ?_
    rintro q w2 ⟨rfl, hb2⟩
    have h2 := h1.below hb2
    obtain ⟨_, ⟨y0, y1, y2, y3, _, _, _, _⟩, _, _⟩ := id h2
    by_cases hy : isBig b v
    · go_wp2_with fail
      refine (byy.out hy _).mono ?_
      rintro q w3 ⟨rfl, hb3⟩
      have h3 := h2.below hb3
      go_wp2_with fail
      go_ret
      exact ⟨rfl, h3.bel⟩
    · have hz : isBig c x := by
        rcases HH.out with h | h | h
        · exact absurd h hx
        · exact absurd h hy
        · exact h
      go_wp2_with fail
      refine (byn.out hy _).mono ?_
      rintro q w3 ⟨rfl, hb3⟩
      have h3 := h2.below hb3
      obtain ⟨_, _, ⟨z0, z1, z2, z3, _, _, _, _⟩, _⟩ := id h3
      go_wp2_with fail
      refine (bzy.out hz _).mono ?_
      rintro q w4 ⟨rfl, hb4⟩
      have h4 := h3.below hb4
      go_wp2_with fail
      go_ret
      exact ⟨rfl, h4.bel⟩

theorem isE (k : ByteArray) : (k.toList.isEmpty = true ↔ k.size = 0) := by rw [emp_iff]; simp

set_option maxHeartbeats 2000000 in
set_option maxRecDepth 100000 in
theorem checks_main (a : ByteArray) (S : Int) (d : Bool) (u : ByteArray) (b : ByteArray) (T : Int) (e : Bool) (v : ByteArray) (c : ByteArray) (U : Int) (f : Bool) (x : ByteArray)
    (ha : a.size ≤ maxLen) (hu : u.size ≤ maxLen) (hb : b.size ≤ maxLen) (hv : v.size ≤ maxLen) (hc : c.size ≤ maxLen) (hx : x.size ≤ maxLen) (w : World)
    (n1 : ¬ isBig a u) (n2 : ¬ isBig b v) (n3 : ¬ isBig c x) :
    Calls Try.prog 3 #[ent a S d u, ent b T e v, ent c U f x] w fun r w' => r = .returned (.bool true) ∧ Below w.heap.size w w' := by
  have h0 := At3.new (a := a) (S := S) (d := d) (u := u) (b := b) (T := T) (e := e) (v := v) (c := c) (U := U) (f := f) (x := x) w
  have bxn := Lib.hid (big_no a S d u ha hu n1)
  have byn := Lib.hid (big_no b T e v hb hv n2)
  have bzn := Lib.hid (big_no c U f x hc hx n3)
  have CK := Lib.hid (check_any a S d u ha hu)
  obtain ⟨z, HZ⟩ : ∃ z, Hid (chk a.size S d u.size = z) := ⟨_, Lib.hid rfl⟩
  rw [HZ.out] at CK
  obtain ⟨L, HL⟩ : ∃ L, Hid (decide (128 < a.size ∨ 65536 < u.size) = L) := ⟨_, Lib.hid rfl⟩
  obtain ⟨K, HK⟩ : ∃ K, Hid (decide (a.size = 0 ∨ 72057594037927935 < S ∨ (d = true ∧ u.size ≠ 0)) = K) := ⟨_, Lib.hid rfl⟩
  obtain ⟨y, HY⟩ : ∃ y : Int, Hid ((if L then 6 else 0) = y) := ⟨_, Lib.hid rfl⟩
  have HEa := Lib.hid (emp_iff a)
  have HEu := Lib.hid (emp_iff u)
  clear hb hv hc hx n1 n2 n3
  unfold maxLen at ha hu
  unfold ent
  go_enter Try.func3, Try.ntmps3
  go_wp2_with fail
  refine (head_any _).mono ?_
  rintro q w1 ⟨rfl, hb1⟩
  have h1 := h0.below hb1
  clear h0 hb1
  obtain ⟨⟨p0, p1, p2, p3, _, _, _, _⟩, _, _, _⟩ := id h1
  go_wp2_with fail
  refine (bxn.out _).mono ?_
  rintro q w2 ⟨rfl, hb2⟩
  have h2 := h1.below hb2
  clear h1 hb2 p0 p1 p2 p3
  obtain ⟨_, ⟨y0, y1, y2, y3, _, _, _, _⟩, _, _⟩ := id h2
  go_wp2_with fail
  refine (byn.out _).mono ?_
  rintro q w3 ⟨rfl, hb3⟩
  have h3 := h2.below hb3
  clear h2 hb3 y0 y1 y2 y3
  obtain ⟨_, _, ⟨z0, z1, z2, z3, _, _, _, _⟩, _⟩ := id h3
  go_wp2_with fail
  refine (bzn.out _).mono ?_
  rintro q w4 ⟨rfl, hb4⟩
  have h4 := h3.below hb4
  clear h3 hb4 z0 z1 z2 z3
  obtain ⟨⟨p0, p1, p2, p3, _, _, _, _⟩, ⟨y0, y1, y2, y3, _, _, _, _⟩, ⟨z0, z1, z2, z3, _, _, _, _⟩, _⟩ := id h4
  go_upto_region 6 with fail
  go_cut [29] (fun t wx => t = .bool L ∧ w4 = wx)
  case first =>
    go_wp2
    all_goals go_meet
    all_goals first
      | exact ⟨congrArg Value.bool (by rw [← HL.out, ← Bool.decide_or, decide_eq_decide]; omega), rfl⟩
      | exact ⟨congrArg Value.bool (by rw [← HL.out, eq_comm, decide_eq_true_iff]; omega), rfl⟩
  case rest =>
    obtain ⟨rfl, rfl⟩ := hcut
    go_upto_if 29 with fail
    go_cut [7] (fun t wx => t = .int .i64 y ∧ w4 = wx)
    case first =>
      cases L
      all_goals (go_wp2; go_meet; exact ⟨congrArg (Value.int .i64) (by rw [← HY.out]; rfl), rfl⟩)
    case rest =>
      obtain ⟨rfl, rfl⟩ := hcut
      go_upto_region 8 with fail
      go_cut [47] (fun t wx => t = .bool K ∧ w4 = wx)
      case first =>
        have hE := HEa.out
        have hD : decide (a.size = 0) = false ∨ decide (a.size = 0) = true := by cases decide (a.size = 0) <;> simp
        rcases hD with hD | hD
        · rw [hD] at hE
          by_cases hS : S ≤ 72057594037927935
          · have hS' : decide ((72057594037927936 : Int) ≤ S) = false := by simp; omega
            cases d
            · go_wp2
              all_goals go_meet
              refine ⟨congrArg Value.bool ?_, rfl⟩
              rw [← HK.out, eq_comm, decide_eq_false_iff_not]
              rw [decide_eq_false_iff_not] at hD
              rintro (h | h | ⟨h, _⟩)
              · exact hD h
              · omega
              · cases h
            · go_wp2
              all_goals go_meet
              refine ⟨congrArg Value.bool ?_, rfl⟩
              rw [← HK.out, decide_eq_decide]
              rw [decide_eq_false_iff_not] at hD
              constructor
              · intro h
                exact .inr (.inr ⟨by simp, by omega⟩)
              · rintro (h | h | ⟨_, h⟩)
                · exact absurd h hD
                · omega
                · omega
          · have hS' : decide ((72057594037927936 : Int) ≤ S) = true := by simp; omega
            go_wp2
            all_goals go_meet
            exact ⟨congrArg Value.bool (by rw [← HK.out, eq_comm, decide_eq_true_iff]; omega), rfl⟩
        · rw [hD] at hE
          go_wp2
          all_goals go_meet
          exact ⟨congrArg Value.bool (by rw [← HK.out, eq_comm, decide_eq_true_iff]; exact .inl (of_decide_eq_true hD)), rfl⟩
      case rest =>
        obtain ⟨rfl, rfl⟩ := hcut
        go_upto_if 47 with fail
        go_cut [7] (fun t wx => t = .int .i64 z ∧ w4 = wx)
        case first =>
          cases K
          · go_wp2
            go_meet
            refine ⟨congrArg (Value.int .i64) ?_, rfl⟩
            have h1 := HK.out
            rw [decide_eq_false_iff_not] at h1
            rw [← HZ.out, ← HY.out]
            unfold chk
            rw [if_neg h1, ← HL.out]
            simp
          · go_wp2
            go_meet
            refine ⟨congrArg (Value.int .i64) ?_, rfl⟩
            have h1 := HK.out
            rw [decide_eq_true_iff] at h1
            rw [← HZ.out]
            unfold chk
            rw [if_pos h1]
        case rest =>
          obtain ⟨rfl, rfl⟩ := hcut
          clear HZ HL HK HY HEa HEu bxn byn bzn ha hu
          clear p0 p1 p2 p3 y0 y1 y2 y3 z0 z1 z2 z3
          have CMx := Lib.hid (fun w => cmp_any a S d u b T e v w)
          have CMy := Lib.hid (fun w => cmp_any b T e v a S d u w)
          go_upto_region 10 with fail
          have h4c := h4.drew.cells
          go_cut [80] (fun t wx => t = .bool false ∧ At3 w wx a S d u b T e v c U f x)
          case first =>
            obtain ⟨P, HP⟩ : ∃ P, Hid (cE a S b T = P) := ⟨_, Lib.hid rfl⟩
            obtain ⟨R, HR⟩ : ∃ R, Hid (cE b T a S = R) := ⟨_, Lib.hid rfl⟩
            have HPQ : Hid (P = -R) := by
              rw [← HP.out, ← HR.out]
              rcases stand a b S T with h | h | h | h | h <;> (rw [h.2.2.1, h.2.2.2]; exact Lib.hid (by decide))
            rw [HP.out] at CMx
            rw [HR.out] at CMy
            have hR3 : R = -1 ∨ R = 0 ∨ R = 1 := by rw [← HR.out]; exact cE_vals _ _ _ _
            have HWR : Hid (IntKind.i64.wrap (-R) = -R) := by rcases hR3 with rfl | rfl | rfl <;> exact Lib.hid (by decide)
            obtain ⟨E0, HE0⟩ : ∃ E0, Hid ((P == 0) = E0) := ⟨_, Lib.hid rfl⟩
            by_cases hab : a = b
            · have HSE : Hid ((S == T) = E0) := by
                rw [← HE0.out, ← HP.out, Bool.eq_iff_iff]
                refine Lib.hid ?_
                subst hab
                rcases stand a a S T with h | h | h | h | h
                · have := h.2.1; simp at this
                · have := h.2.1; simp at this
                · rw [h.2.2.1]; have := h.2.1; simp; omega
                · rw [h.2.2.1]; have := h.2.1; simp; omega
                · rw [h.2.2.1]; have := h.2.1; simp; omega
              subst hab
              clear hR3 HP HR
              refine wp_region_noPanic ?_
              refine wp_region_held_drew (S := (fun w' => w'.cell? ⟨w.heap.size, 0, none⟩ = some (.string a) ∧ w'.cell? ⟨w.heap.size, 1, none⟩ = some (.int .u64 S) ∧ w'.cell? ⟨w.heap.size, 2, none⟩ = some (.bool d) ∧ w'.cell? ⟨w.heap.size, 3, none⟩ = some (.string u) ∧ w'.cell? ⟨w.heap.size + 1, 0, none⟩ = some (.string a) ∧ w'.cell? ⟨w.heap.size + 1, 1, none⟩ = some (.int .u64 T) ∧ w'.cell? ⟨w.heap.size + 1, 2, none⟩ = some (.bool e) ∧ w'.cell? ⟨w.heap.size + 1, 3, none⟩ = some (.string v) ∧ w'.cell? ⟨w.heap.size + 1 + 1, 0, none⟩ = some (.string c) ∧ w'.cell? ⟨w.heap.size + 1 + 1, 1, none⟩ = some (.int .u64 U) ∧ w'.cell? ⟨w.heap.size + 1 + 1, 2, none⟩ = some (.bool f) ∧ w'.cell? ⟨w.heap.size + 1 + 1, 3, none⟩ = some (.string x) ∧ At3 w w' a S d u a T e v c U f x)) (by kernel_rfl) (h4c) (fun hHeld => ?_)
              refine wpAnyH_take (i := 0) (v := ?_) (by simp only [List.getElem?_toArray, List.getElem?_cons_succ, List.getElem?_cons_zero]; rfl) (by kernel_rfl) (by kernel_rfl) (by kernel_rfl) (fun _ _ _ h => h) (Or.inl ⟨by rfl, ?_⟩) (by assumption) ?_
              rotate_left
              · (intro w hSw; (try dsimp only at hSw); go_simp; (try with_reducible rfl))
              (try simp only [Act.put, List.setIfInBounds_toArray, List.set_cons_zero, List.set_cons_succ])
              refine wpAnyH_take (i := 2) (v := ?_) (by simp only [List.getElem?_toArray, List.getElem?_cons_succ, List.getElem?_cons_zero]; rfl) (by kernel_rfl) (by kernel_rfl) (by kernel_rfl) (fun _ _ _ h => h) (Or.inl ⟨by rfl, ?_⟩) (by assumption) ?_
              rotate_left
              · (intro w hSw; (try dsimp only at hSw); go_simp; (try with_reducible rfl))
              (try simp only [Act.put, List.setIfInBounds_toArray, List.set_cons_zero, List.set_cons_succ])
              refine wpAnyH_ready (rs := [1]) (by kernel_rfl) (by simp) ?_
              refine AllReadyH.cons (by simp only [List.getElem?_toArray, List.getElem?_cons_succ, List.getElem?_cons_zero]; rfl) (fun K hK => ?_) AllReadyH.nil
              go_simp
              refine (CK.out _).mono ?_
              rintro q w5 ⟨rfl, hb5⟩
              go_simp
              refine hK.out _ _ ?_ (fun hHeld => ?_)
              · exact At3.again hHeld hb5
              clear hK K
              (try simp only [Act.put, List.setIfInBounds_toArray, List.set_cons_zero, List.set_cons_succ])
              (try clear hb5)
              refine wpAnyH_take (i := 3) (v := .bool false) (by simp only [List.getElem?_toArray, List.getElem?_cons_succ, List.getElem?_cons_zero]; rfl) (by kernel_rfl) (by kernel_rfl) (by kernel_rfl) (fun _ _ _ h => h) (Or.inl ⟨by rfl, ?_⟩) (by assumption) ?_
              · (intro w hSw; (try dsimp only at hSw); go_simp; (try simp))
              (try simp only [Act.put, List.setIfInBounds_toArray, List.set_cons_zero, List.set_cons_succ])
              refine wpAnyH_take (i := 4) (v := ?_) (by simp only [List.getElem?_toArray, List.getElem?_cons_succ, List.getElem?_cons_zero]; rfl) (by kernel_rfl) (by kernel_rfl) (by kernel_rfl) (fun _ _ _ h => h) (Or.inl ⟨by rfl, ?_⟩) (by assumption) ?_
              rotate_left
              · (intro w hSw; (try dsimp only at hSw); go_simp; (try with_reducible rfl))
              (try simp only [Act.put, List.setIfInBounds_toArray, List.set_cons_zero, List.set_cons_succ])
              refine wpAnyH_take (i := 5) (v := ?_) (by simp only [List.getElem?_toArray, List.getElem?_cons_succ, List.getElem?_cons_zero]; rfl) (by kernel_rfl) (by kernel_rfl) (by kernel_rfl) (fun _ _ _ h => h) (Or.inl ⟨by rfl, ?_⟩) (by assumption) ?_
              rotate_left
              · (intro w hSw; (try dsimp only at hSw); go_simp; (try with_reducible rfl))
              (try simp only [Act.put, List.setIfInBounds_toArray, List.set_cons_zero, List.set_cons_succ])
              refine wpAnyH_take (i := 6) (v := ?_) (by simp only [List.getElem?_toArray, List.getElem?_cons_succ, List.getElem?_cons_zero]; rfl) (by kernel_rfl) (by kernel_rfl) (by kernel_rfl) (fun _ _ _ h => h) (Or.inl ⟨by rfl, ?_⟩) (by assumption) ?_
              rotate_left
              · (intro w hSw; (try dsimp only at hSw); go_simp; (try with_reducible rfl))
              (try simp only [Act.put, List.setIfInBounds_toArray, List.set_cons_zero, List.set_cons_succ])
              refine wpAnyH_take (i := 8) (v := ?_) (by simp only [List.getElem?_toArray, List.getElem?_cons_succ, List.getElem?_cons_zero]; rfl) (by kernel_rfl) (by kernel_rfl) (by kernel_rfl) (fun _ _ _ h => h) (Or.inl ⟨by rfl, ?_⟩) (by assumption) ?_
              rotate_left
              · (intro w hSw; (try dsimp only at hSw); go_simp; (try with_reducible rfl))
              (try simp only [Act.put, List.setIfInBounds_toArray, List.set_cons_zero, List.set_cons_succ])
              refine wpAnyH_take (i := 9) (v := ?_) (by simp only [List.getElem?_toArray, List.getElem?_cons_succ, List.getElem?_cons_zero]; rfl) (by kernel_rfl) (by kernel_rfl) (by kernel_rfl) (fun _ _ _ h => h) (Or.inl ⟨by rfl, ?_⟩) (by assumption) ?_
              rotate_left
              · (intro w hSw; (try dsimp only at hSw); go_simp; (try with_reducible rfl))
              (try simp only [Act.put, List.setIfInBounds_toArray, List.set_cons_zero, List.set_cons_succ])
              refine wpAnyH_ready (rs := [7]) (by kernel_rfl) (by simp) ?_
              refine AllReadyH.cons (by simp only [List.getElem?_toArray, List.getElem?_cons_succ, List.getElem?_cons_zero]; rfl) (fun K hK => ?_) AllReadyH.nil
              go_simp
              refine (CMx.out _).mono ?_
              rintro q w6 ⟨rfl, hb6⟩
              go_simp
              refine hK.out _ _ ?_ (fun hHeld => ?_)
              · exact At3.again hHeld hb6
              clear hK K
              (try simp only [Act.put, List.setIfInBounds_toArray, List.set_cons_zero, List.set_cons_succ])
              (try clear hb6)
              refine wpAnyH_ready (rs := [10]) (by kernel_rfl) (by simp) ?_
              refine AllReadyH.cons (by simp only [List.getElem?_toArray, List.getElem?_cons_succ, List.getElem?_cons_zero]; rfl) (fun K hK => ?_) AllReadyH.nil
              go_simp
              refine (CMy.out _).mono ?_
              rintro q w7 ⟨rfl, hb7⟩
              go_simp
              refine hK.out _ _ ?_ (fun hHeld => ?_)
              · exact At3.again hHeld hb7
              clear hK K
              (try simp only [Act.put, List.setIfInBounds_toArray, List.set_cons_zero, List.set_cons_succ])
              (try clear hb7)
              refine wpAnyH_take (i := 11) (v := ?_) (by simp only [List.getElem?_toArray, List.getElem?_cons_succ, List.getElem?_cons_zero]; rfl) (by kernel_rfl) (by kernel_rfl) (by kernel_rfl) (fun _ _ _ h => h) (Or.inl ⟨by rfl, ?_⟩) (by assumption) ?_
              rotate_left
              · (intro w hSw; (try dsimp only at hSw); go_simp; (try with_reducible rfl))
              (try simp only [Act.put, List.setIfInBounds_toArray, List.set_cons_zero, List.set_cons_succ])
              refine wpAnyH_take (i := 12) (v := .bool false) (by simp only [List.getElem?_toArray, List.getElem?_cons_succ, List.getElem?_cons_zero]; rfl) (by kernel_rfl) (by kernel_rfl) (by kernel_rfl) (fun _ _ _ h => h) (Or.inl ⟨by rfl, ?_⟩) (by assumption) ?_
              · (intro w hSw; (try dsimp only at hSw); go_simp; (try (simp [HPQ.out, HWR.out])))
              (try simp only [Act.put, List.setIfInBounds_toArray, List.set_cons_zero, List.set_cons_succ])
              refine wpAnyH_take (i := 13) (v := ?_) (by simp only [List.getElem?_toArray, List.getElem?_cons_succ, List.getElem?_cons_zero]; rfl) (by kernel_rfl) (by kernel_rfl) (by kernel_rfl) (fun _ _ _ h => h) (Or.inl ⟨by rfl, ?_⟩) (by assumption) ?_
              rotate_left
              · (intro w hSw; (try dsimp only at hSw); go_simp; (try with_reducible rfl))
              (try simp only [Act.put, List.setIfInBounds_toArray, List.set_cons_zero, List.set_cons_succ])
              refine wpAnyH_take (i := 14) (v := ?_) (by simp only [List.getElem?_toArray, List.getElem?_cons_succ, List.getElem?_cons_zero]; rfl) (by kernel_rfl) (by kernel_rfl) (by kernel_rfl) (fun _ _ _ h => h) (Or.inl ⟨by rfl, ?_⟩) (by assumption) ?_
              rotate_left
              · (intro w hSw; (try dsimp only at hSw); go_simp; (try with_reducible rfl))
              (try simp only [Act.put, List.setIfInBounds_toArray, List.set_cons_zero, List.set_cons_succ])
              refine wpAnyH_take (i := 15) (v := ?_) (by simp only [List.getElem?_toArray, List.getElem?_cons_succ, List.getElem?_cons_zero]; rfl) (by kernel_rfl) (by kernel_rfl) (by kernel_rfl) (fun _ _ _ h => h) (Or.inl ⟨by rfl, ?_⟩) (by assumption) ?_
              rotate_left
              · (intro w hSw; (try dsimp only at hSw); go_simp; (try with_reducible rfl))
              (try simp only [Act.put, List.setIfInBounds_toArray, List.set_cons_zero, List.set_cons_succ])
              refine wpAnyH_take (i := 16) (v := ?_) (by simp only [List.getElem?_toArray, List.getElem?_cons_succ, List.getElem?_cons_zero]; rfl) (by kernel_rfl) (by kernel_rfl) (by kernel_rfl) (fun _ _ _ h => h) (Or.inl ⟨by rfl, ?_⟩) (by assumption) ?_
              rotate_left
              · (intro w hSw; (try dsimp only at hSw); go_simp; (try with_reducible rfl))
              (try simp only [Act.put, List.setIfInBounds_toArray, List.set_cons_zero, List.set_cons_succ])
              refine wpAnyH_take (i := 19) (v := ?_) (by simp only [List.getElem?_toArray, List.getElem?_cons_succ, List.getElem?_cons_zero]; rfl) (by kernel_rfl) (by kernel_rfl) (by kernel_rfl) (fun _ _ _ h => h) (Or.inl ⟨by rfl, ?_⟩) (by assumption) ?_
              rotate_left
              · (intro w hSw; (try dsimp only at hSw); go_simp; (try with_reducible rfl))
              (try simp only [Act.put, List.setIfInBounds_toArray, List.set_cons_zero, List.set_cons_succ])
              refine wpAnyH_take (i := 20) (v := ?_) (by simp only [List.getElem?_toArray, List.getElem?_cons_succ, List.getElem?_cons_zero]; rfl) (by kernel_rfl) (by kernel_rfl) (by kernel_rfl) (fun _ _ _ h => h) (Or.inl ⟨by rfl, ?_⟩) (by assumption) ?_
              rotate_left
              · (intro w hSw; (try dsimp only at hSw); go_simp; (try with_reducible rfl))
              (try simp only [Act.put, List.setIfInBounds_toArray, List.set_cons_zero, List.set_cons_succ])
              refine wpAnyH_take (i := 21) (v := ?_) (by simp only [List.getElem?_toArray, List.getElem?_cons_succ, List.getElem?_cons_zero]; rfl) (by kernel_rfl) (by kernel_rfl) (by kernel_rfl) (fun _ _ _ h => h) (Or.inl ⟨by rfl, ?_⟩) (by assumption) ?_
              rotate_left
              · (intro w hSw; (try dsimp only at hSw); go_simp; (try with_reducible rfl))
              (try simp only [Act.put, List.setIfInBounds_toArray, List.set_cons_zero, List.set_cons_succ])
              refine wpAnyH_take (i := 22) (v := ?_) (by simp only [List.getElem?_toArray, List.getElem?_cons_succ, List.getElem?_cons_zero]; rfl) (by kernel_rfl) (by kernel_rfl) (by kernel_rfl) (fun _ _ _ h => h) (Or.inl ⟨by rfl, ?_⟩) (by assumption) ?_
              rotate_left
              · (intro w hSw; (try dsimp only at hSw); go_simp; (try with_reducible rfl))
              (try simp only [Act.put, List.setIfInBounds_toArray, List.set_cons_zero, List.set_cons_succ])
              refine wpAnyH_take (i := 23) (v := .bool true) (by simp only [List.getElem?_toArray, List.getElem?_cons_succ, List.getElem?_cons_zero]; rfl) (by kernel_rfl) (by kernel_rfl) (by kernel_rfl) (fun _ _ _ h => h) (Or.inl ⟨by rfl, ?_⟩) (by assumption) ?_
              · (intro w hSw; (try dsimp only at hSw); go_simp; (try simp))
              (try simp only [Act.put, List.setIfInBounds_toArray, List.set_cons_zero, List.set_cons_succ])
              refine wpAnyH_ready (rs := [17]) (by kernel_rfl) (by simp) ?_
              refine AllReadyH.cons (by simp only [List.getElem?_toArray, List.getElem?_cons_succ, List.getElem?_cons_zero]; rfl) (fun K hK => ?_) AllReadyH.nil
              go_simp
              refine (CMx.out _).mono ?_
              rintro q w8 ⟨rfl, hb8⟩
              go_simp
              refine hK.out _ _ ?_ (fun hHeld => ?_)
              · exact At3.again hHeld hb8
              clear hK K
              (try simp only [Act.put, List.setIfInBounds_toArray, List.set_cons_zero, List.set_cons_succ])
              (try clear hb8)
              refine wpAnyH_take (i := 18) (v := .bool E0) (by simp only [List.getElem?_toArray, List.getElem?_cons_succ, List.getElem?_cons_zero]; rfl) (by kernel_rfl) (by kernel_rfl) (by kernel_rfl) (fun _ _ _ h => h) (Or.inl ⟨by rfl, ?_⟩) (by assumption) ?_
              · (intro w hSw; (try dsimp only at hSw); go_simp; first | exact HE0.out | simp [HE0.out])
              (try simp only [Act.put, List.setIfInBounds_toArray, List.set_cons_zero, List.set_cons_succ])
              refine wpAnyH_take (i := 24) (v := ?_) (by simp only [List.getElem?_toArray, List.getElem?_cons_succ, List.getElem?_cons_zero]; rfl) (by kernel_rfl) (by kernel_rfl) (by kernel_rfl) (fun _ _ _ h => h) (Or.inl ⟨by rfl, ?_⟩) (by assumption) ?_
              rotate_left
              · (intro w hSw; (try dsimp only at hSw); go_simp; (try with_reducible rfl))
              (try simp only [Act.put, List.setIfInBounds_toArray, List.set_cons_zero, List.set_cons_succ])
              refine wpAnyH_take (i := 25) (v := ?_) (by simp only [List.getElem?_toArray, List.getElem?_cons_succ, List.getElem?_cons_zero]; rfl) (by kernel_rfl) (by kernel_rfl) (by kernel_rfl) (fun _ _ _ h => h) (Or.inl ⟨by rfl, ?_⟩) (by assumption) ?_
              rotate_left
              · (intro w hSw; (try dsimp only at hSw); go_simp; (try with_reducible rfl))
              (try simp only [Act.put, List.setIfInBounds_toArray, List.set_cons_zero, List.set_cons_succ])
              refine wpAnyH_take (i := 26) (v := ?_) (by simp only [List.getElem?_toArray, List.getElem?_cons_succ, List.getElem?_cons_zero]; rfl) (by kernel_rfl) (by kernel_rfl) (by kernel_rfl) (fun _ _ _ h => h) (Or.inl ⟨by rfl, ?_⟩) (by assumption) ?_
              rotate_left
              · (intro w hSw; (try dsimp only at hSw); go_simp; (try with_reducible rfl))
              (try simp only [Act.put, List.setIfInBounds_toArray, List.set_cons_zero, List.set_cons_succ])
              refine wpAnyH_take (i := 27) (v := ?_) (by simp only [List.getElem?_toArray, List.getElem?_cons_succ, List.getElem?_cons_zero]; rfl) (by kernel_rfl) (by kernel_rfl) (by kernel_rfl) (fun _ _ _ h => h) (Or.inl ⟨by rfl, ?_⟩) (by assumption) ?_
              rotate_left
              · (intro w hSw; (try dsimp only at hSw); go_simp; (try with_reducible rfl))
              (try simp only [Act.put, List.setIfInBounds_toArray, List.set_cons_zero, List.set_cons_succ])
              refine wpAnyH_take (i := 28) (v := ?_) (by simp only [List.getElem?_toArray, List.getElem?_cons_succ, List.getElem?_cons_zero]; rfl) (by kernel_rfl) (by kernel_rfl) (by kernel_rfl) (fun _ _ _ h => h) (Or.inl ⟨by rfl, ?_⟩) (by assumption) ?_
              rotate_left
              · (intro w hSw; (try dsimp only at hSw); go_simp; (try with_reducible rfl))
              (try simp only [Act.put, List.setIfInBounds_toArray, List.set_cons_zero, List.set_cons_succ])
              refine wpAnyH_take (i := 29) (v := .bool E0) (by simp only [List.getElem?_toArray, List.getElem?_cons_succ, List.getElem?_cons_zero]; rfl) (by kernel_rfl) (by kernel_rfl) (by kernel_rfl) (fun _ _ _ h => h) (Or.inl ⟨by rfl, ?_⟩) (by assumption) ?_
              · (intro w hSw; (try dsimp only at hSw); go_simp; first | exact HSE.out | simp [HSE.out])
              (try simp only [Act.put, List.setIfInBounds_toArray, List.set_cons_zero, List.set_cons_succ])
              refine wpAnyH_take (i := 30) (v := ?_) (by simp only [List.getElem?_toArray, List.getElem?_cons_succ, List.getElem?_cons_zero]; rfl) (by kernel_rfl) (by kernel_rfl) (by kernel_rfl) (fun _ _ _ h => h) (Or.inl ⟨by rfl, ?_⟩) (by assumption) ?_
              rotate_left
              · (intro w hSw; (try dsimp only at hSw); go_simp; (try with_reducible rfl))
              (try simp only [Act.put, List.setIfInBounds_toArray, List.set_cons_zero, List.set_cons_succ])
              refine wpAnyH_take (i := 31) (v := .bool false) (by simp only [List.getElem?_toArray, List.getElem?_cons_succ, List.getElem?_cons_zero]; rfl) (by kernel_rfl) (by kernel_rfl) (by kernel_rfl) (fun _ _ _ h => h) (Or.inl ⟨by rfl, ?_⟩) (by assumption) ?_
              · (intro w hSw; (try dsimp only at hSw); go_simp; (try simp))
              (try simp only [Act.put, List.setIfInBounds_toArray, List.set_cons_zero, List.set_cons_succ])
              refine wpAnyH_take (i := 32) (v := ?_) (by simp only [List.getElem?_toArray, List.getElem?_cons_succ, List.getElem?_cons_zero]; rfl) (by kernel_rfl) (by kernel_rfl) (by kernel_rfl) (fun _ _ _ h => h) (Or.inl ⟨by rfl, ?_⟩) (by assumption) ?_
              rotate_left
              · (intro w hSw; (try dsimp only at hSw); go_simp; (try with_reducible rfl))
              (try simp only [Act.put, List.setIfInBounds_toArray, List.set_cons_zero, List.set_cons_succ])
              refine wpAnyH_done (by kernel_rfl) ?_ _
              refine NoPanic.normal ?_
              go_wp2_with fail
              go_meet
              exact ⟨rfl, hHeld.2.2.2.2.2.2.2.2.2.2.2.2⟩
            · have HKE : Hid ((a.toList == b.toList) = false) := Lib.hid (by rw [beq_eq_false_iff_ne]; exact fun h => hab (toList_inj h))
              have hE0 : E0 = false := by
                rw [← HE0.out, ← HP.out, beq_eq_false_iff_ne]
                rcases stand a b S T with h | h | h | h | h
                · rw [h.2.2.1]; decide
                · rw [h.2.2.1]; decide
                · exact absurd h.1 hab
                · exact absurd h.1 hab
                · exact absurd h.1 hab
              subst hE0
              clear hR3 HP HR hab
              refine wp_region_noPanic ?_
              refine wp_region_held_drew (S := (fun w' => w'.cell? ⟨w.heap.size, 0, none⟩ = some (.string a) ∧ w'.cell? ⟨w.heap.size, 1, none⟩ = some (.int .u64 S) ∧ w'.cell? ⟨w.heap.size, 2, none⟩ = some (.bool d) ∧ w'.cell? ⟨w.heap.size, 3, none⟩ = some (.string u) ∧ w'.cell? ⟨w.heap.size + 1, 0, none⟩ = some (.string b) ∧ w'.cell? ⟨w.heap.size + 1, 1, none⟩ = some (.int .u64 T) ∧ w'.cell? ⟨w.heap.size + 1, 2, none⟩ = some (.bool e) ∧ w'.cell? ⟨w.heap.size + 1, 3, none⟩ = some (.string v) ∧ w'.cell? ⟨w.heap.size + 1 + 1, 0, none⟩ = some (.string c) ∧ w'.cell? ⟨w.heap.size + 1 + 1, 1, none⟩ = some (.int .u64 U) ∧ w'.cell? ⟨w.heap.size + 1 + 1, 2, none⟩ = some (.bool f) ∧ w'.cell? ⟨w.heap.size + 1 + 1, 3, none⟩ = some (.string x) ∧ At3 w w' a S d u b T e v c U f x)) (by kernel_rfl) (h4c) (fun hHeld => ?_)
              refine wpAnyH_take (i := 0) (v := ?_) (by simp only [List.getElem?_toArray, List.getElem?_cons_succ, List.getElem?_cons_zero]; rfl) (by kernel_rfl) (by kernel_rfl) (by kernel_rfl) (fun _ _ _ h => h) (Or.inl ⟨by rfl, ?_⟩) (by assumption) ?_
              rotate_left
              · (intro w hSw; (try dsimp only at hSw); go_simp; (try with_reducible rfl))
              (try simp only [Act.put, List.setIfInBounds_toArray, List.set_cons_zero, List.set_cons_succ])
              refine wpAnyH_take (i := 2) (v := ?_) (by simp only [List.getElem?_toArray, List.getElem?_cons_succ, List.getElem?_cons_zero]; rfl) (by kernel_rfl) (by kernel_rfl) (by kernel_rfl) (fun _ _ _ h => h) (Or.inl ⟨by rfl, ?_⟩) (by assumption) ?_
              rotate_left
              · (intro w hSw; (try dsimp only at hSw); go_simp; (try with_reducible rfl))
              (try simp only [Act.put, List.setIfInBounds_toArray, List.set_cons_zero, List.set_cons_succ])
              refine wpAnyH_ready (rs := [1]) (by kernel_rfl) (by simp) ?_
              refine AllReadyH.cons (by simp only [List.getElem?_toArray, List.getElem?_cons_succ, List.getElem?_cons_zero]; rfl) (fun K hK => ?_) AllReadyH.nil
              go_simp
              refine (CK.out _).mono ?_
              rintro q w5 ⟨rfl, hb5⟩
              go_simp
              refine hK.out _ _ ?_ (fun hHeld => ?_)
              · exact At3.again hHeld hb5
              clear hK K
              (try simp only [Act.put, List.setIfInBounds_toArray, List.set_cons_zero, List.set_cons_succ])
              (try clear hb5)
              refine wpAnyH_take (i := 3) (v := .bool false) (by simp only [List.getElem?_toArray, List.getElem?_cons_succ, List.getElem?_cons_zero]; rfl) (by kernel_rfl) (by kernel_rfl) (by kernel_rfl) (fun _ _ _ h => h) (Or.inl ⟨by rfl, ?_⟩) (by assumption) ?_
              · (intro w hSw; (try dsimp only at hSw); go_simp; (try simp))
              (try simp only [Act.put, List.setIfInBounds_toArray, List.set_cons_zero, List.set_cons_succ])
              refine wpAnyH_take (i := 4) (v := ?_) (by simp only [List.getElem?_toArray, List.getElem?_cons_succ, List.getElem?_cons_zero]; rfl) (by kernel_rfl) (by kernel_rfl) (by kernel_rfl) (fun _ _ _ h => h) (Or.inl ⟨by rfl, ?_⟩) (by assumption) ?_
              rotate_left
              · (intro w hSw; (try dsimp only at hSw); go_simp; (try with_reducible rfl))
              (try simp only [Act.put, List.setIfInBounds_toArray, List.set_cons_zero, List.set_cons_succ])
              refine wpAnyH_take (i := 5) (v := ?_) (by simp only [List.getElem?_toArray, List.getElem?_cons_succ, List.getElem?_cons_zero]; rfl) (by kernel_rfl) (by kernel_rfl) (by kernel_rfl) (fun _ _ _ h => h) (Or.inl ⟨by rfl, ?_⟩) (by assumption) ?_
              rotate_left
              · (intro w hSw; (try dsimp only at hSw); go_simp; (try with_reducible rfl))
              (try simp only [Act.put, List.setIfInBounds_toArray, List.set_cons_zero, List.set_cons_succ])
              refine wpAnyH_take (i := 6) (v := ?_) (by simp only [List.getElem?_toArray, List.getElem?_cons_succ, List.getElem?_cons_zero]; rfl) (by kernel_rfl) (by kernel_rfl) (by kernel_rfl) (fun _ _ _ h => h) (Or.inl ⟨by rfl, ?_⟩) (by assumption) ?_
              rotate_left
              · (intro w hSw; (try dsimp only at hSw); go_simp; (try with_reducible rfl))
              (try simp only [Act.put, List.setIfInBounds_toArray, List.set_cons_zero, List.set_cons_succ])
              refine wpAnyH_take (i := 8) (v := ?_) (by simp only [List.getElem?_toArray, List.getElem?_cons_succ, List.getElem?_cons_zero]; rfl) (by kernel_rfl) (by kernel_rfl) (by kernel_rfl) (fun _ _ _ h => h) (Or.inl ⟨by rfl, ?_⟩) (by assumption) ?_
              rotate_left
              · (intro w hSw; (try dsimp only at hSw); go_simp; (try with_reducible rfl))
              (try simp only [Act.put, List.setIfInBounds_toArray, List.set_cons_zero, List.set_cons_succ])
              refine wpAnyH_take (i := 9) (v := ?_) (by simp only [List.getElem?_toArray, List.getElem?_cons_succ, List.getElem?_cons_zero]; rfl) (by kernel_rfl) (by kernel_rfl) (by kernel_rfl) (fun _ _ _ h => h) (Or.inl ⟨by rfl, ?_⟩) (by assumption) ?_
              rotate_left
              · (intro w hSw; (try dsimp only at hSw); go_simp; (try with_reducible rfl))
              (try simp only [Act.put, List.setIfInBounds_toArray, List.set_cons_zero, List.set_cons_succ])
              refine wpAnyH_ready (rs := [7]) (by kernel_rfl) (by simp) ?_
              refine AllReadyH.cons (by simp only [List.getElem?_toArray, List.getElem?_cons_succ, List.getElem?_cons_zero]; rfl) (fun K hK => ?_) AllReadyH.nil
              go_simp
              refine (CMx.out _).mono ?_
              rintro q w6 ⟨rfl, hb6⟩
              go_simp
              refine hK.out _ _ ?_ (fun hHeld => ?_)
              · exact At3.again hHeld hb6
              clear hK K
              (try simp only [Act.put, List.setIfInBounds_toArray, List.set_cons_zero, List.set_cons_succ])
              (try clear hb6)
              refine wpAnyH_ready (rs := [10]) (by kernel_rfl) (by simp) ?_
              refine AllReadyH.cons (by simp only [List.getElem?_toArray, List.getElem?_cons_succ, List.getElem?_cons_zero]; rfl) (fun K hK => ?_) AllReadyH.nil
              go_simp
              refine (CMy.out _).mono ?_
              rintro q w7 ⟨rfl, hb7⟩
              go_simp
              refine hK.out _ _ ?_ (fun hHeld => ?_)
              · exact At3.again hHeld hb7
              clear hK K
              (try simp only [Act.put, List.setIfInBounds_toArray, List.set_cons_zero, List.set_cons_succ])
              (try clear hb7)
              refine wpAnyH_take (i := 11) (v := ?_) (by simp only [List.getElem?_toArray, List.getElem?_cons_succ, List.getElem?_cons_zero]; rfl) (by kernel_rfl) (by kernel_rfl) (by kernel_rfl) (fun _ _ _ h => h) (Or.inl ⟨by rfl, ?_⟩) (by assumption) ?_
              rotate_left
              · (intro w hSw; (try dsimp only at hSw); go_simp; (try with_reducible rfl))
              (try simp only [Act.put, List.setIfInBounds_toArray, List.set_cons_zero, List.set_cons_succ])
              refine wpAnyH_take (i := 12) (v := .bool false) (by simp only [List.getElem?_toArray, List.getElem?_cons_succ, List.getElem?_cons_zero]; rfl) (by kernel_rfl) (by kernel_rfl) (by kernel_rfl) (fun _ _ _ h => h) (Or.inl ⟨by rfl, ?_⟩) (by assumption) ?_
              · (intro w hSw; (try dsimp only at hSw); go_simp; (try (simp [HPQ.out, HWR.out])))
              (try simp only [Act.put, List.setIfInBounds_toArray, List.set_cons_zero, List.set_cons_succ])
              refine wpAnyH_take (i := 13) (v := ?_) (by simp only [List.getElem?_toArray, List.getElem?_cons_succ, List.getElem?_cons_zero]; rfl) (by kernel_rfl) (by kernel_rfl) (by kernel_rfl) (fun _ _ _ h => h) (Or.inl ⟨by rfl, ?_⟩) (by assumption) ?_
              rotate_left
              · (intro w hSw; (try dsimp only at hSw); go_simp; (try with_reducible rfl))
              (try simp only [Act.put, List.setIfInBounds_toArray, List.set_cons_zero, List.set_cons_succ])
              refine wpAnyH_take (i := 14) (v := ?_) (by simp only [List.getElem?_toArray, List.getElem?_cons_succ, List.getElem?_cons_zero]; rfl) (by kernel_rfl) (by kernel_rfl) (by kernel_rfl) (fun _ _ _ h => h) (Or.inl ⟨by rfl, ?_⟩) (by assumption) ?_
              rotate_left
              · (intro w hSw; (try dsimp only at hSw); go_simp; (try with_reducible rfl))
              (try simp only [Act.put, List.setIfInBounds_toArray, List.set_cons_zero, List.set_cons_succ])
              refine wpAnyH_take (i := 15) (v := ?_) (by simp only [List.getElem?_toArray, List.getElem?_cons_succ, List.getElem?_cons_zero]; rfl) (by kernel_rfl) (by kernel_rfl) (by kernel_rfl) (fun _ _ _ h => h) (Or.inl ⟨by rfl, ?_⟩) (by assumption) ?_
              rotate_left
              · (intro w hSw; (try dsimp only at hSw); go_simp; (try with_reducible rfl))
              (try simp only [Act.put, List.setIfInBounds_toArray, List.set_cons_zero, List.set_cons_succ])
              refine wpAnyH_take (i := 16) (v := ?_) (by simp only [List.getElem?_toArray, List.getElem?_cons_succ, List.getElem?_cons_zero]; rfl) (by kernel_rfl) (by kernel_rfl) (by kernel_rfl) (fun _ _ _ h => h) (Or.inl ⟨by rfl, ?_⟩) (by assumption) ?_
              rotate_left
              · (intro w hSw; (try dsimp only at hSw); go_simp; (try with_reducible rfl))
              (try simp only [Act.put, List.setIfInBounds_toArray, List.set_cons_zero, List.set_cons_succ])
              refine wpAnyH_take (i := 19) (v := ?_) (by simp only [List.getElem?_toArray, List.getElem?_cons_succ, List.getElem?_cons_zero]; rfl) (by kernel_rfl) (by kernel_rfl) (by kernel_rfl) (fun _ _ _ h => h) (Or.inl ⟨by rfl, ?_⟩) (by assumption) ?_
              rotate_left
              · (intro w hSw; (try dsimp only at hSw); go_simp; (try with_reducible rfl))
              (try simp only [Act.put, List.setIfInBounds_toArray, List.set_cons_zero, List.set_cons_succ])
              refine wpAnyH_take (i := 20) (v := ?_) (by simp only [List.getElem?_toArray, List.getElem?_cons_succ, List.getElem?_cons_zero]; rfl) (by kernel_rfl) (by kernel_rfl) (by kernel_rfl) (fun _ _ _ h => h) (Or.inl ⟨by rfl, ?_⟩) (by assumption) ?_
              rotate_left
              · (intro w hSw; (try dsimp only at hSw); go_simp; (try with_reducible rfl))
              (try simp only [Act.put, List.setIfInBounds_toArray, List.set_cons_zero, List.set_cons_succ])
              refine wpAnyH_take (i := 21) (v := ?_) (by simp only [List.getElem?_toArray, List.getElem?_cons_succ, List.getElem?_cons_zero]; rfl) (by kernel_rfl) (by kernel_rfl) (by kernel_rfl) (fun _ _ _ h => h) (Or.inl ⟨by rfl, ?_⟩) (by assumption) ?_
              rotate_left
              · (intro w hSw; (try dsimp only at hSw); go_simp; (try with_reducible rfl))
              (try simp only [Act.put, List.setIfInBounds_toArray, List.set_cons_zero, List.set_cons_succ])
              refine wpAnyH_take (i := 22) (v := ?_) (by simp only [List.getElem?_toArray, List.getElem?_cons_succ, List.getElem?_cons_zero]; rfl) (by kernel_rfl) (by kernel_rfl) (by kernel_rfl) (fun _ _ _ h => h) (Or.inl ⟨by rfl, ?_⟩) (by assumption) ?_
              rotate_left
              · (intro w hSw; (try dsimp only at hSw); go_simp; (try with_reducible rfl))
              (try simp only [Act.put, List.setIfInBounds_toArray, List.set_cons_zero, List.set_cons_succ])
              refine wpAnyH_take (i := 23) (v := .bool false) (by simp only [List.getElem?_toArray, List.getElem?_cons_succ, List.getElem?_cons_zero]; rfl) (by kernel_rfl) (by kernel_rfl) (by kernel_rfl) (fun _ _ _ h => h) (Or.inl ⟨by rfl, ?_⟩) (by assumption) ?_
              · (intro w hSw; (try dsimp only at hSw); go_simp; first | exact HKE.out | exact beq_eq_false_iff_ne.1 HKE.out)
              (try simp only [Act.put, List.setIfInBounds_toArray, List.set_cons_zero, List.set_cons_succ])
              refine wpAnyH_ready (rs := [17]) (by kernel_rfl) (by simp) ?_
              refine AllReadyH.cons (by simp only [List.getElem?_toArray, List.getElem?_cons_succ, List.getElem?_cons_zero]; rfl) (fun K hK => ?_) AllReadyH.nil
              go_simp
              refine (CMx.out _).mono ?_
              rintro q w8 ⟨rfl, hb8⟩
              go_simp
              refine hK.out _ _ ?_ (fun hHeld => ?_)
              · exact At3.again hHeld hb8
              clear hK K
              (try simp only [Act.put, List.setIfInBounds_toArray, List.set_cons_zero, List.set_cons_succ])
              (try clear hb8)
              refine wpAnyH_take (i := 18) (v := .bool false) (by simp only [List.getElem?_toArray, List.getElem?_cons_succ, List.getElem?_cons_zero]; rfl) (by kernel_rfl) (by kernel_rfl) (by kernel_rfl) (fun _ _ _ h => h) (Or.inl ⟨by rfl, ?_⟩) (by assumption) ?_
              · (intro w hSw; (try dsimp only at hSw); go_simp; first | exact HE0.out | exact beq_eq_false_iff_ne.1 HE0.out)
              (try simp only [Act.put, List.setIfInBounds_toArray, List.set_cons_zero, List.set_cons_succ])
              refine wpAnyH_take (i := 24) (v := ?_) (by simp only [List.getElem?_toArray, List.getElem?_cons_succ, List.getElem?_cons_zero]; rfl) (by kernel_rfl) (by kernel_rfl) (by kernel_rfl) (fun _ _ _ h => h) (Or.inl ⟨by rfl, ?_⟩) (by assumption) ?_
              rotate_left
              · (intro w hSw; (try dsimp only at hSw); go_simp; (try with_reducible rfl))
              (try simp only [Act.put, List.setIfInBounds_toArray, List.set_cons_zero, List.set_cons_succ])
              refine wpAnyH_take (i := 25) (v := undef) (by simp only [List.getElem?_toArray, List.getElem?_cons_succ, List.getElem?_cons_zero]; rfl) (by kernel_rfl) (by kernel_rfl) (by kernel_rfl) (fun _ _ _ h => h) (Or.inr ⟨by rfl, rfl⟩) (by assumption) ?_
              (try simp only [Act.put, List.setIfInBounds_toArray, List.set_cons_zero, List.set_cons_succ])
              refine wpAnyH_take (i := 26) (v := undef) (by simp only [List.getElem?_toArray, List.getElem?_cons_succ, List.getElem?_cons_zero]; rfl) (by kernel_rfl) (by kernel_rfl) (by kernel_rfl) (fun _ _ _ h => h) (Or.inr ⟨by rfl, rfl⟩) (by assumption) ?_
              (try simp only [Act.put, List.setIfInBounds_toArray, List.set_cons_zero, List.set_cons_succ])
              refine wpAnyH_take (i := 27) (v := undef) (by simp only [List.getElem?_toArray, List.getElem?_cons_succ, List.getElem?_cons_zero]; rfl) (by kernel_rfl) (by kernel_rfl) (by kernel_rfl) (fun _ _ _ h => h) (Or.inr ⟨by rfl, rfl⟩) (by assumption) ?_
              (try simp only [Act.put, List.setIfInBounds_toArray, List.set_cons_zero, List.set_cons_succ])
              refine wpAnyH_take (i := 28) (v := undef) (by simp only [List.getElem?_toArray, List.getElem?_cons_succ, List.getElem?_cons_zero]; rfl) (by kernel_rfl) (by kernel_rfl) (by kernel_rfl) (fun _ _ _ h => h) (Or.inr ⟨by rfl, rfl⟩) (by assumption) ?_
              (try simp only [Act.put, List.setIfInBounds_toArray, List.set_cons_zero, List.set_cons_succ])
              refine wpAnyH_take (i := 29) (v := undef) (by simp only [List.getElem?_toArray, List.getElem?_cons_succ, List.getElem?_cons_zero]; rfl) (by kernel_rfl) (by kernel_rfl) (by kernel_rfl) (fun _ _ _ h => h) (Or.inr ⟨by rfl, rfl⟩) (by assumption) ?_
              (try simp only [Act.put, List.setIfInBounds_toArray, List.set_cons_zero, List.set_cons_succ])
              refine wpAnyH_take (i := 30) (v := ?_) (by simp only [List.getElem?_toArray, List.getElem?_cons_succ, List.getElem?_cons_zero]; rfl) (by kernel_rfl) (by kernel_rfl) (by kernel_rfl) (fun _ _ _ h => h) (Or.inl ⟨by rfl, ?_⟩) (by assumption) ?_
              rotate_left
              · (intro w hSw; (try dsimp only at hSw); go_simp; (try with_reducible rfl))
              (try simp only [Act.put, List.setIfInBounds_toArray, List.set_cons_zero, List.set_cons_succ])
              refine wpAnyH_take (i := 31) (v := .bool false) (by simp only [List.getElem?_toArray, List.getElem?_cons_succ, List.getElem?_cons_zero]; rfl) (by kernel_rfl) (by kernel_rfl) (by kernel_rfl) (fun _ _ _ h => h) (Or.inl ⟨by rfl, ?_⟩) (by assumption) ?_
              · (intro w hSw; (try dsimp only at hSw); go_simp; (try simp))
              (try simp only [Act.put, List.setIfInBounds_toArray, List.set_cons_zero, List.set_cons_succ])
              refine wpAnyH_take (i := 32) (v := ?_) (by simp only [List.getElem?_toArray, List.getElem?_cons_succ, List.getElem?_cons_zero]; rfl) (by kernel_rfl) (by kernel_rfl) (by kernel_rfl) (fun _ _ _ h => h) (Or.inl ⟨by rfl, ?_⟩) (by assumption) ?_
              rotate_left
              · (intro w hSw; (try dsimp only at hSw); go_simp; (try with_reducible rfl))
              (try simp only [Act.put, List.setIfInBounds_toArray, List.set_cons_zero, List.set_cons_succ])
              refine wpAnyH_done (by kernel_rfl) ?_ _
              refine NoPanic.normal ?_
              go_wp2_with fail
              go_meet
              exact ⟨rfl, hHeld.2.2.2.2.2.2.2.2.2.2.2.2⟩
          case rest =>
            obtain ⟨rfl, h5⟩ := hcut
            have CMr := Lib.hid (fun w => cmp_any b T e v c U f x w)
            have CMs := Lib.hid (fun w => cmp_any a S d u c U f x w)
            have HTR := Lib.hid (cE_trans a b c S T U)
            obtain ⟨P, HP⟩ : ∃ P, Hid (cE a S b T = P) := ⟨_, Lib.hid rfl⟩
            obtain ⟨R, HR⟩ : ∃ R, Hid (cE b T c U = R) := ⟨_, Lib.hid rfl⟩
            obtain ⟨V, HV⟩ : ∃ V, Hid (cE a S c U = V) := ⟨_, Lib.hid rfl⟩
            have HP3 := Lib.hid (cE_vals a b S T)
            have HR3 := Lib.hid (cE_vals b c T U)
            rw [HP.out] at CMx HP3 HTR
            rw [HR.out] at CMr HR3 HTR
            rw [HV.out] at CMs HTR
            clear CK CMy
            go_upto_region 12 with fail
            go_cut [96] (fun t wx => t = .bool false ∧ At3 w wx a S d u b T e v c U f x)
            case first =>
              obtain ⟨⟨p0, p1, p2, p3, _, _, _, _⟩, ⟨y0, y1, y2, y3, _, _, _, _⟩, ⟨z0, z1, z2, z3, _, _, _, _⟩, _⟩ := id h5
              go_wp2_with fail
              refine (CMx.out _).mono ?_
              rintro q w6 ⟨rfl, hb6⟩
              have h6 := h5.below hb6
              clear p0 p1 p2 p3 y0 y1 y2 y3 z0 z1 z2 z3
              by_cases hP : P < 0
              · obtain ⟨⟨p0, p1, p2, p3, _, _, _, _⟩, ⟨y0, y1, y2, y3, _, _, _, _⟩, ⟨z0, z1, z2, z3, _, _, _, _⟩, _⟩ := id h6
                go_wp2_with fail
                refine (CMr.out _).mono ?_
                rintro q w7 ⟨rfl, hb7⟩
                have h7 := h6.below hb7
                clear p0 p1 p2 p3 y0 y1 y2 y3 z0 z1 z2 z3
                by_cases hR : R < 0
                · have hV : V < 0 := by
                    have := HTR.out (by have := HP3.out; omega) (by have := HR3.out; omega)
                    omega
                  have hV' : decide (0 ≤ V) = false := by simp; omega
                  obtain ⟨⟨p0, p1, p2, p3, _, _, _, _⟩, ⟨y0, y1, y2, y3, _, _, _, _⟩, ⟨z0, z1, z2, z3, _, _, _, _⟩, _⟩ := id h7
                  go_wp2_with fail
                  refine (CMs.out _).mono ?_
                  rintro q w8 ⟨rfl, hb8⟩
                  have h8 := h7.below hb8
                  go_wp2_with fail
                  go_meet
                  exact ⟨rfl, h8⟩
                · have hR' : decide (R < 0) = false := by simp; omega
                  go_wp2_with fail
                  go_meet
                  exact ⟨rfl, h7⟩
              · have hP' : decide (P < 0) = false := by simp; omega
                go_wp2_with fail
                go_meet
                exact ⟨rfl, h6⟩
            case rest =>
              obtain ⟨rfl, h6⟩ := hcut
              clear CMr CMs HTR HR3 HR HV
              go_upto_region 14 with fail
              have h6c := h6.drew.cells
              by_cases hab : a = b
              · subst hab
                clear HP HP3
                refine wp_region_noPanic ?_
                refine wp_region_held_drew (S := (fun w' => w'.cell? ⟨w.heap.size, 0, none⟩ = some (.string a) ∧ w'.cell? ⟨w.heap.size, 1, none⟩ = some (.int .u64 S) ∧ w'.cell? ⟨w.heap.size, 2, none⟩ = some (.bool d) ∧ w'.cell? ⟨w.heap.size, 3, none⟩ = some (.string u) ∧ w'.cell? ⟨w.heap.size + 1, 0, none⟩ = some (.string a) ∧ w'.cell? ⟨w.heap.size + 1, 1, none⟩ = some (.int .u64 T) ∧ w'.cell? ⟨w.heap.size + 1, 2, none⟩ = some (.bool e) ∧ w'.cell? ⟨w.heap.size + 1, 3, none⟩ = some (.string v) ∧ w'.cell? ⟨w.heap.size + 1 + 1, 0, none⟩ = some (.string c) ∧ w'.cell? ⟨w.heap.size + 1 + 1, 1, none⟩ = some (.int .u64 U) ∧ w'.cell? ⟨w.heap.size + 1 + 1, 2, none⟩ = some (.bool f) ∧ w'.cell? ⟨w.heap.size + 1 + 1, 3, none⟩ = some (.string x) ∧ At3 w w' a S d u a T e v c U f x)) (by kernel_rfl) (h6c) (fun hHeld => ?_)
                refine wpAnyH_take (i := 0) (v := ?_) (by simp only [List.getElem?_toArray, List.getElem?_cons_succ, List.getElem?_cons_zero]; rfl) (by kernel_rfl) (by kernel_rfl) (by kernel_rfl) (fun _ _ _ h => h) (Or.inl ⟨by rfl, ?_⟩) (by assumption) ?_
                rotate_left
                · (intro w hSw; (try dsimp only at hSw); go_simp; (try with_reducible rfl))
                (try simp only [Act.put, List.setIfInBounds_toArray, List.set_cons_zero, List.set_cons_succ])
                refine wpAnyH_take (i := 1) (v := ?_) (by simp only [List.getElem?_toArray, List.getElem?_cons_succ, List.getElem?_cons_zero]; rfl) (by kernel_rfl) (by kernel_rfl) (by kernel_rfl) (fun _ _ _ h => h) (Or.inl ⟨by rfl, ?_⟩) (by assumption) ?_
                rotate_left
                · (intro w hSw; (try dsimp only at hSw); go_simp; (try with_reducible rfl))
                (try simp only [Act.put, List.setIfInBounds_toArray, List.set_cons_zero, List.set_cons_succ])
                refine wpAnyH_take (i := 2) (v := ?_) (by simp only [List.getElem?_toArray, List.getElem?_cons_succ, List.getElem?_cons_zero]; rfl) (by kernel_rfl) (by kernel_rfl) (by kernel_rfl) (fun _ _ _ h => h) (Or.inl ⟨by rfl, ?_⟩) (by assumption) ?_
                rotate_left
                · (intro w hSw; (try dsimp only at hSw); go_simp; (try with_reducible rfl))
                (try simp only [Act.put, List.setIfInBounds_toArray, List.set_cons_zero, List.set_cons_succ])
                refine wpAnyH_take (i := 3) (v := ?_) (by simp only [List.getElem?_toArray, List.getElem?_cons_succ, List.getElem?_cons_zero]; rfl) (by kernel_rfl) (by kernel_rfl) (by kernel_rfl) (fun _ _ _ h => h) (Or.inl ⟨by rfl, ?_⟩) (by assumption) ?_
                rotate_left
                · (intro w hSw; (try dsimp only at hSw); go_simp; (try with_reducible rfl))
                (try simp only [Act.put, List.setIfInBounds_toArray, List.set_cons_zero, List.set_cons_succ])
                refine wpAnyH_take (i := 4) (v := .bool true) (by simp only [List.getElem?_toArray, List.getElem?_cons_succ, List.getElem?_cons_zero]; rfl) (by kernel_rfl) (by kernel_rfl) (by kernel_rfl) (fun _ _ _ h => h) (Or.inl ⟨by rfl, ?_⟩) (by assumption) ?_
                · (intro w hSw; (try dsimp only at hSw); go_simp; (try simp))
                (try simp only [Act.put, List.setIfInBounds_toArray, List.set_cons_zero, List.set_cons_succ])
                refine wpAnyH_take (i := 5) (v := ?_) (by simp only [List.getElem?_toArray, List.getElem?_cons_succ, List.getElem?_cons_zero]; rfl) (by kernel_rfl) (by kernel_rfl) (by kernel_rfl) (fun _ _ _ h => h) (Or.inl ⟨by rfl, ?_⟩) (by assumption) ?_
                rotate_left
                · (intro w hSw; (try dsimp only at hSw); go_simp; (try with_reducible rfl))
                (try simp only [Act.put, List.setIfInBounds_toArray, List.set_cons_zero, List.set_cons_succ])
                refine wpAnyH_take (i := 6) (v := undef) (by simp only [List.getElem?_toArray, List.getElem?_cons_succ, List.getElem?_cons_zero]; rfl) (by kernel_rfl) (by kernel_rfl) (by kernel_rfl) (fun _ _ _ h => h) (Or.inr ⟨by rfl, rfl⟩) (by assumption) ?_
                (try simp only [Act.put, List.setIfInBounds_toArray, List.set_cons_zero, List.set_cons_succ])
                refine wpAnyH_take (i := 7) (v := undef) (by simp only [List.getElem?_toArray, List.getElem?_cons_succ, List.getElem?_cons_zero]; rfl) (by kernel_rfl) (by kernel_rfl) (by kernel_rfl) (fun _ _ _ h => h) (Or.inr ⟨by rfl, rfl⟩) (by assumption) ?_
                (try simp only [Act.put, List.setIfInBounds_toArray, List.set_cons_zero, List.set_cons_succ])
                refine wpAnyH_take (i := 8) (v := undef) (by simp only [List.getElem?_toArray, List.getElem?_cons_succ, List.getElem?_cons_zero]; rfl) (by kernel_rfl) (by kernel_rfl) (by kernel_rfl) (fun _ _ _ h => h) (Or.inr ⟨by rfl, rfl⟩) (by assumption) ?_
                (try simp only [Act.put, List.setIfInBounds_toArray, List.set_cons_zero, List.set_cons_succ])
                refine wpAnyH_take (i := 9) (v := undef) (by simp only [List.getElem?_toArray, List.getElem?_cons_succ, List.getElem?_cons_zero]; rfl) (by kernel_rfl) (by kernel_rfl) (by kernel_rfl) (fun _ _ _ h => h) (Or.inr ⟨by rfl, rfl⟩) (by assumption) ?_
                (try simp only [Act.put, List.setIfInBounds_toArray, List.set_cons_zero, List.set_cons_succ])
                refine wpAnyH_take (i := 10) (v := undef) (by simp only [List.getElem?_toArray, List.getElem?_cons_succ, List.getElem?_cons_zero]; rfl) (by kernel_rfl) (by kernel_rfl) (by kernel_rfl) (fun _ _ _ h => h) (Or.inr ⟨by rfl, rfl⟩) (by assumption) ?_
                (try simp only [Act.put, List.setIfInBounds_toArray, List.set_cons_zero, List.set_cons_succ])
                refine wpAnyH_take (i := 11) (v := undef) (by simp only [List.getElem?_toArray, List.getElem?_cons_succ, List.getElem?_cons_zero]; rfl) (by kernel_rfl) (by kernel_rfl) (by kernel_rfl) (fun _ _ _ h => h) (Or.inr ⟨by rfl, rfl⟩) (by assumption) ?_
                (try simp only [Act.put, List.setIfInBounds_toArray, List.set_cons_zero, List.set_cons_succ])
                refine wpAnyH_take (i := 12) (v := undef) (by simp only [List.getElem?_toArray, List.getElem?_cons_succ, List.getElem?_cons_zero]; rfl) (by kernel_rfl) (by kernel_rfl) (by kernel_rfl) (fun _ _ _ h => h) (Or.inr ⟨by rfl, rfl⟩) (by assumption) ?_
                (try simp only [Act.put, List.setIfInBounds_toArray, List.set_cons_zero, List.set_cons_succ])
                refine wpAnyH_take (i := 13) (v := undef) (by simp only [List.getElem?_toArray, List.getElem?_cons_succ, List.getElem?_cons_zero]; rfl) (by kernel_rfl) (by kernel_rfl) (by kernel_rfl) (fun _ _ _ h => h) (Or.inr ⟨by rfl, rfl⟩) (by assumption) ?_
                (try simp only [Act.put, List.setIfInBounds_toArray, List.set_cons_zero, List.set_cons_succ])
                refine wpAnyH_take (i := 14) (v := undef) (by simp only [List.getElem?_toArray, List.getElem?_cons_succ, List.getElem?_cons_zero]; rfl) (by kernel_rfl) (by kernel_rfl) (by kernel_rfl) (fun _ _ _ h => h) (Or.inr ⟨by rfl, rfl⟩) (by assumption) ?_
                (try simp only [Act.put, List.setIfInBounds_toArray, List.set_cons_zero, List.set_cons_succ])
                refine wpAnyH_take (i := 15) (v := undef) (by simp only [List.getElem?_toArray, List.getElem?_cons_succ, List.getElem?_cons_zero]; rfl) (by kernel_rfl) (by kernel_rfl) (by kernel_rfl) (fun _ _ _ h => h) (Or.inr ⟨by rfl, rfl⟩) (by assumption) ?_
                (try simp only [Act.put, List.setIfInBounds_toArray, List.set_cons_zero, List.set_cons_succ])
                refine wpAnyH_take (i := 16) (v := ?_) (by simp only [List.getElem?_toArray, List.getElem?_cons_succ, List.getElem?_cons_zero]; rfl) (by kernel_rfl) (by kernel_rfl) (by kernel_rfl) (fun _ _ _ h => h) (Or.inl ⟨by rfl, ?_⟩) (by assumption) ?_
                rotate_left
                · (intro w hSw; (try dsimp only at hSw); go_simp; (try with_reducible rfl))
                (try simp only [Act.put, List.setIfInBounds_toArray, List.set_cons_zero, List.set_cons_succ])
                refine wpAnyH_take (i := 17) (v := ?_) (by simp only [List.getElem?_toArray, List.getElem?_cons_succ, List.getElem?_cons_zero]; rfl) (by kernel_rfl) (by kernel_rfl) (by kernel_rfl) (fun _ _ _ h => h) (Or.inl ⟨by rfl, ?_⟩) (by assumption) ?_
                rotate_left
                · (intro w hSw; (try dsimp only at hSw); go_simp; (try with_reducible rfl))
                (try simp only [Act.put, List.setIfInBounds_toArray, List.set_cons_zero, List.set_cons_succ])
                refine wpAnyH_done (by kernel_rfl) ?_ _
                refine NoPanic.normal ?_
                go_wp2_with fail
                go_ret
                exact ⟨rfl, hHeld.2.2.2.2.2.2.2.2.2.2.2.2.bel⟩
              · have HKE : Hid ((a.toList == b.toList) = false) := Lib.hid (by rw [beq_eq_false_iff_ne]; exact fun h => hab (toList_inj h))
                obtain ⟨L, HL⟩ : ∃ L, Hid (Op.bytesLess a.toList b.toList = L) := ⟨_, Lib.hid rfl⟩
                have HPL : Hid (decide (P < 0) = L) := by
                  rw [← HP.out, ← HL.out]
                  rcases stand a b S T with h | h | h | h | h
                  · rw [h.1, h.2.2.1]; exact Lib.hid (by decide)
                  · rw [h.1, h.2.2.1]; exact Lib.hid (by decide)
                  · exact absurd h.1 hab
                  · exact absurd h.1 hab
                  · exact absurd h.1 hab
                clear HP HP3 hab
                refine wp_region_noPanic ?_
                refine wp_region_held_drew (S := (fun w' => w'.cell? ⟨w.heap.size, 0, none⟩ = some (.string a) ∧ w'.cell? ⟨w.heap.size, 1, none⟩ = some (.int .u64 S) ∧ w'.cell? ⟨w.heap.size, 2, none⟩ = some (.bool d) ∧ w'.cell? ⟨w.heap.size, 3, none⟩ = some (.string u) ∧ w'.cell? ⟨w.heap.size + 1, 0, none⟩ = some (.string b) ∧ w'.cell? ⟨w.heap.size + 1, 1, none⟩ = some (.int .u64 T) ∧ w'.cell? ⟨w.heap.size + 1, 2, none⟩ = some (.bool e) ∧ w'.cell? ⟨w.heap.size + 1, 3, none⟩ = some (.string v) ∧ w'.cell? ⟨w.heap.size + 1 + 1, 0, none⟩ = some (.string c) ∧ w'.cell? ⟨w.heap.size + 1 + 1, 1, none⟩ = some (.int .u64 U) ∧ w'.cell? ⟨w.heap.size + 1 + 1, 2, none⟩ = some (.bool f) ∧ w'.cell? ⟨w.heap.size + 1 + 1, 3, none⟩ = some (.string x) ∧ At3 w w' a S d u b T e v c U f x)) (by kernel_rfl) (h6c) (fun hHeld => ?_)
                refine wpAnyH_take (i := 0) (v := ?_) (by simp only [List.getElem?_toArray, List.getElem?_cons_succ, List.getElem?_cons_zero]; rfl) (by kernel_rfl) (by kernel_rfl) (by kernel_rfl) (fun _ _ _ h => h) (Or.inl ⟨by rfl, ?_⟩) (by assumption) ?_
                rotate_left
                · (intro w hSw; (try dsimp only at hSw); go_simp; (try with_reducible rfl))
                (try simp only [Act.put, List.setIfInBounds_toArray, List.set_cons_zero, List.set_cons_succ])
                refine wpAnyH_take (i := 1) (v := ?_) (by simp only [List.getElem?_toArray, List.getElem?_cons_succ, List.getElem?_cons_zero]; rfl) (by kernel_rfl) (by kernel_rfl) (by kernel_rfl) (fun _ _ _ h => h) (Or.inl ⟨by rfl, ?_⟩) (by assumption) ?_
                rotate_left
                · (intro w hSw; (try dsimp only at hSw); go_simp; (try with_reducible rfl))
                (try simp only [Act.put, List.setIfInBounds_toArray, List.set_cons_zero, List.set_cons_succ])
                refine wpAnyH_take (i := 2) (v := ?_) (by simp only [List.getElem?_toArray, List.getElem?_cons_succ, List.getElem?_cons_zero]; rfl) (by kernel_rfl) (by kernel_rfl) (by kernel_rfl) (fun _ _ _ h => h) (Or.inl ⟨by rfl, ?_⟩) (by assumption) ?_
                rotate_left
                · (intro w hSw; (try dsimp only at hSw); go_simp; (try with_reducible rfl))
                (try simp only [Act.put, List.setIfInBounds_toArray, List.set_cons_zero, List.set_cons_succ])
                refine wpAnyH_take (i := 3) (v := ?_) (by simp only [List.getElem?_toArray, List.getElem?_cons_succ, List.getElem?_cons_zero]; rfl) (by kernel_rfl) (by kernel_rfl) (by kernel_rfl) (fun _ _ _ h => h) (Or.inl ⟨by rfl, ?_⟩) (by assumption) ?_
                rotate_left
                · (intro w hSw; (try dsimp only at hSw); go_simp; (try with_reducible rfl))
                (try simp only [Act.put, List.setIfInBounds_toArray, List.set_cons_zero, List.set_cons_succ])
                refine wpAnyH_take (i := 4) (v := .bool false) (by simp only [List.getElem?_toArray, List.getElem?_cons_succ, List.getElem?_cons_zero]; rfl) (by kernel_rfl) (by kernel_rfl) (by kernel_rfl) (fun _ _ _ h => h) (Or.inl ⟨by rfl, ?_⟩) (by assumption) ?_
                · (intro w hSw; (try dsimp only at hSw); go_simp; first | exact HKE.out | exact beq_eq_false_iff_ne.1 HKE.out)
                (try simp only [Act.put, List.setIfInBounds_toArray, List.set_cons_zero, List.set_cons_succ])
                refine wpAnyH_take (i := 5) (v := ?_) (by simp only [List.getElem?_toArray, List.getElem?_cons_succ, List.getElem?_cons_zero]; rfl) (by kernel_rfl) (by kernel_rfl) (by kernel_rfl) (fun _ _ _ h => h) (Or.inl ⟨by rfl, ?_⟩) (by assumption) ?_
                rotate_left
                · (intro w hSw; (try dsimp only at hSw); go_simp; (try with_reducible rfl))
                (try simp only [Act.put, List.setIfInBounds_toArray, List.set_cons_zero, List.set_cons_succ])
                refine wpAnyH_take (i := 6) (v := ?_) (by simp only [List.getElem?_toArray, List.getElem?_cons_succ, List.getElem?_cons_zero]; rfl) (by kernel_rfl) (by kernel_rfl) (by kernel_rfl) (fun _ _ _ h => h) (Or.inl ⟨by rfl, ?_⟩) (by assumption) ?_
                rotate_left
                · (intro w hSw; (try dsimp only at hSw); go_simp; (try with_reducible rfl))
                (try simp only [Act.put, List.setIfInBounds_toArray, List.set_cons_zero, List.set_cons_succ])
                refine wpAnyH_take (i := 7) (v := ?_) (by simp only [List.getElem?_toArray, List.getElem?_cons_succ, List.getElem?_cons_zero]; rfl) (by kernel_rfl) (by kernel_rfl) (by kernel_rfl) (fun _ _ _ h => h) (Or.inl ⟨by rfl, ?_⟩) (by assumption) ?_
                rotate_left
                · (intro w hSw; (try dsimp only at hSw); go_simp; (try with_reducible rfl))
                (try simp only [Act.put, List.setIfInBounds_toArray, List.set_cons_zero, List.set_cons_succ])
                refine wpAnyH_take (i := 10) (v := ?_) (by simp only [List.getElem?_toArray, List.getElem?_cons_succ, List.getElem?_cons_zero]; rfl) (by kernel_rfl) (by kernel_rfl) (by kernel_rfl) (fun _ _ _ h => h) (Or.inl ⟨by rfl, ?_⟩) (by assumption) ?_
                rotate_left
                · (intro w hSw; (try dsimp only at hSw); go_simp; (try with_reducible rfl))
                (try simp only [Act.put, List.setIfInBounds_toArray, List.set_cons_zero, List.set_cons_succ])
                refine wpAnyH_take (i := 11) (v := ?_) (by simp only [List.getElem?_toArray, List.getElem?_cons_succ, List.getElem?_cons_zero]; rfl) (by kernel_rfl) (by kernel_rfl) (by kernel_rfl) (fun _ _ _ h => h) (Or.inl ⟨by rfl, ?_⟩) (by assumption) ?_
                rotate_left
                · (intro w hSw; (try dsimp only at hSw); go_simp; (try with_reducible rfl))
                (try simp only [Act.put, List.setIfInBounds_toArray, List.set_cons_zero, List.set_cons_succ])
                refine wpAnyH_take (i := 12) (v := ?_) (by simp only [List.getElem?_toArray, List.getElem?_cons_succ, List.getElem?_cons_zero]; rfl) (by kernel_rfl) (by kernel_rfl) (by kernel_rfl) (fun _ _ _ h => h) (Or.inl ⟨by rfl, ?_⟩) (by assumption) ?_
                rotate_left
                · (intro w hSw; (try dsimp only at hSw); go_simp; (try with_reducible rfl))
                (try simp only [Act.put, List.setIfInBounds_toArray, List.set_cons_zero, List.set_cons_succ])
                refine wpAnyH_take (i := 13) (v := ?_) (by simp only [List.getElem?_toArray, List.getElem?_cons_succ, List.getElem?_cons_zero]; rfl) (by kernel_rfl) (by kernel_rfl) (by kernel_rfl) (fun _ _ _ h => h) (Or.inl ⟨by rfl, ?_⟩) (by assumption) ?_
                rotate_left
                · (intro w hSw; (try dsimp only at hSw); go_simp; (try with_reducible rfl))
                (try simp only [Act.put, List.setIfInBounds_toArray, List.set_cons_zero, List.set_cons_succ])
                refine wpAnyH_take (i := 14) (v := .bool L) (by simp only [List.getElem?_toArray, List.getElem?_cons_succ, List.getElem?_cons_zero]; rfl) (by kernel_rfl) (by kernel_rfl) (by kernel_rfl) (fun _ _ _ h => h) (Or.inl ⟨by rfl, ?_⟩) (by assumption) ?_
                · (intro w hSw; (try dsimp only at hSw); go_simp; first | exact HL.out | exact congrArg Value.bool HL.out | (trace_state; sorry))
                (try simp only [Act.put, List.setIfInBounds_toArray, List.set_cons_zero, List.set_cons_succ])
                refine wpAnyH_ready (rs := [8]) (by kernel_rfl) (by simp) ?_
                refine AllReadyH.cons (by simp only [List.getElem?_toArray, List.getElem?_cons_succ, List.getElem?_cons_zero]; rfl) (fun K hK => ?_) AllReadyH.nil
                go_simp
                refine (CMx.out _).mono ?_
                rintro q w9 ⟨rfl, hb9⟩
                go_simp
                refine hK.out _ _ ?_ (fun hHeld => ?_)
                · exact At3.again hHeld hb9
                clear hK K
                (try simp only [Act.put, List.setIfInBounds_toArray, List.set_cons_zero, List.set_cons_succ])
                (try clear hb9)
                refine wpAnyH_take (i := 9) (v := .bool L) (by simp only [List.getElem?_toArray, List.getElem?_cons_succ, List.getElem?_cons_zero]; rfl) (by kernel_rfl) (by kernel_rfl) (by kernel_rfl) (fun _ _ _ h => h) (Or.inl ⟨by rfl, ?_⟩) (by assumption) ?_
                · (intro w hSw; (try dsimp only at hSw); go_simp; first | exact HPL.out | exact congrArg Value.bool HPL.out | (trace_state; sorry))
                (try simp only [Act.put, List.setIfInBounds_toArray, List.set_cons_zero, List.set_cons_succ])
                refine wpAnyH_take (i := 15) (v := .bool true) (by simp only [List.getElem?_toArray, List.getElem?_cons_succ, List.getElem?_cons_zero]; rfl) (by kernel_rfl) (by kernel_rfl) (by kernel_rfl) (fun _ _ _ h => h) (Or.inl ⟨by rfl, ?_⟩) (by assumption) ?_
                · (intro w hSw; (try dsimp only at hSw); go_simp; (try simp))
                (try simp only [Act.put, List.setIfInBounds_toArray, List.set_cons_zero, List.set_cons_succ])
                refine wpAnyH_take (i := 16) (v := ?_) (by simp only [List.getElem?_toArray, List.getElem?_cons_succ, List.getElem?_cons_zero]; rfl) (by kernel_rfl) (by kernel_rfl) (by kernel_rfl) (fun _ _ _ h => h) (Or.inl ⟨by rfl, ?_⟩) (by assumption) ?_
                rotate_left
                · (intro w hSw; (try dsimp only at hSw); go_simp; (try with_reducible rfl))
                (try simp only [Act.put, List.setIfInBounds_toArray, List.set_cons_zero, List.set_cons_succ])
                refine wpAnyH_take (i := 17) (v := ?_) (by simp only [List.getElem?_toArray, List.getElem?_cons_succ, List.getElem?_cons_zero]; rfl) (by kernel_rfl) (by kernel_rfl) (by kernel_rfl) (fun _ _ _ h => h) (Or.inl ⟨by rfl, ?_⟩) (by assumption) ?_
                rotate_left
                · (intro w hSw; (try dsimp only at hSw); go_simp; (try with_reducible rfl))
                (try simp only [Act.put, List.setIfInBounds_toArray, List.set_cons_zero, List.set_cons_succ])
                refine wpAnyH_done (by kernel_rfl) ?_ _
                refine NoPanic.normal ?_
                go_wp2_with fail
                go_ret
                exact ⟨rfl, hHeld.2.2.2.2.2.2.2.2.2.2.2.2.bel⟩
end Go.Proofs.Ytahbhaphodgomac
