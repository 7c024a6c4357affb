/- The law's head. -/
import Derived.Test.YtkdkihacpjhgmaaXO
import Derived.Laws.Tables
namespace Go.Proofs.Ytkdkihacpjhgmaa
set_option linter.unusedSimpArgs false
set_option linter.unusedVariables false
open Go.RowKit

theorem wp_built {P : Program} {o : Oper} {a : Act} {w : World} {K : Act → World → Prop} {Q : Exit → Act → World → Prop} (t : TypeId) (parts : Array (Nat × Operand)) (ho : o.op = .build t parts) (C : Array Value)
    (hf : P.built t (parts.map fun (i, x) => (i, a.eval x)).toList = some C) (h : K (a.put o.dst (.agg C)) w) : o.wp P a w K Q :=
  wp_build t parts ho (by rw [hf]; rfl) (by rw [hf]; exact h)
theorem built_in : Try.prog.built 58 [] = some ZIN.toArray := by kernel_rfl

/-- The document's transaction. -/
def P0 : PTx := { ver := 0, ins := [⟨z32, 0, [], 0, []⟩], outs := [⟨0, []⟩], lock := 0 }
def B0 : List Nat := layB P0 (hasW P0)
theorem p0_enc : encE P0 = 0 := by decide +kernel
theorem b0_len : B0.length = 60 := by decide +kernel
theorem b0_lt : B8 B0 := by unfold B8; decide +kernel
theorem b0_dec : (dec B0).2.1 = 60 ∧ (dec B0).2.2 = 0 ∧ (dec B0).1.ins.length = 1 ∧ (dec B0).1.outs.length = 1 := by decide +kernel

set_option maxHeartbeats 4000000 in
set_option maxRecDepth 100000 in
theorem head_any (w : World) : Calls Try.prog 8 #[] w fun e w' => e = .returned (.bool true) ∧ Below w.heap.size w w' := by
  obtain ⟨W1, e1⟩ : ∃ W1, W1 = w.alloc (.cells ZIN.toArray 58) := ⟨_, rfl⟩
  obtain ⟨W2, e2⟩ : ∃ W2, W2 = W1.alloc (.cells #[.int .i64 0, .string ⟨#[]⟩] 49) := ⟨_, rfl⟩
  obtain ⟨W3, e3⟩ : ∃ W3, W3 = W2.alloc (.cells #[.int .i32 0, .slice (some ⟨w.heap.size, 0, none⟩) 1 1, .slice (some ⟨w.heap.size + 1, 0, none⟩) 1 1, .int .u32 0] 26) := ⟨_, rfl⟩
  have b1 : Below w.heap.size w W1 := by rw [e1]; exact (Below.refl _ _).alloc (Nat.le_refl _) _
  have b2 : Below W1.heap.size W1 W2 := by rw [e2]; exact (Below.refl _ _).alloc (Nat.le_refl _) _
  have b3 : Below W2.heap.size W2 W3 := by rw [e3]; exact (Below.refl _ _).alloc (Nat.le_refl _) _
  have s1 : W1.heap.size = w.heap.size + 1 := by rw [e1]; simp
  have s2 : W2.heap.size = w.heap.size + 2 := by rw [e2]; simp; omega
  have x3 : Bx4 W3 (w.heap.size + 2) (.int .i32 0) (.slice (some ⟨w.heap.size, 0, none⟩) 1 1) (.slice (some ⟨w.heap.size + 1, 0, none⟩) 1 1) (.int .u32 0) := by rw [← s2, e3]; exact Bx4.new _ _ _ _ _ _
  have b23 := b2.trans (b3.mono b2.size)
  have b13 : Below w.heap.size w W3 := b1.trans (b23.mono b1.size)
  have hT : TxAt W3 W3.heap.size ⟨0, [⟨⟨z32, 0, [], 0, []⟩, none, 0⟩], some ⟨w.heap.size, 0, none⟩, 1, [⟨0, []⟩], some ⟨w.heap.size + 1, 0, none⟩, 1, 0⟩ := by
    refine ⟨?_, ?_, ?_, ?_, by simp, by simp, by simp, by simp, by simp, by simp, by simp⟩
    · have h1 : RdN W1 (w.heap.size + 1) 36 (some ⟨w.heap.size, 0, none⟩) 1 ZIN := by rw [e1]; exact RdN.new w 36 1 ZIN 58 (0, 0) ZIN_len
      rw [← s1] at h1
      have h2 := (h1.below b23).up (show W1.heap.size ≤ W3.heap.size from b23.size)
      exact h2
    · have h1 : RdN W2 (W1.heap.size + 1) 2 (some ⟨W1.heap.size, 0, none⟩) 1 [.int .i64 0, .string ⟨#[]⟩] := by rw [e2]; exact RdN.new W1 2 1 [.int .i64 0, .string ⟨#[]⟩] 49 (0, 0) rfl
      rw [s1, show w.heap.size + 1 + 1 = W2.heap.size by rw [s2]] at h1
      exact (h1.below b3).up b3.size
    · intro x hx
      simp at hx
      subst hx
      exact ⟨Rd.nil, ⟨rfl, (fun c hc => by have := List.eq_of_mem_replicate hc; omega), by simp, (fun c hc => by cases hc), by simp, by simp, (fun p hp => by cases hp)⟩, by simp, by simp⟩
    · intro x hx
      simp at hx
      subst hx
      exact ⟨by simp, by simp, (fun c hc => by cases hc), by simp⟩
  have HEN := Lib.hid (encode_any W3 W3.heap.size _ hT (Nat.le_refl _))
  have hp : MTx.p ⟨0, [⟨⟨z32, 0, [], 0, []⟩, none, 0⟩], some ⟨w.heap.size, 0, none⟩, 1, [⟨0, []⟩], some ⟨w.heap.size + 1, 0, none⟩, 1, 0⟩ = P0 := rfl
  rw [hp, p0_enc, show (layB P0 (hasW P0)).length = 60 from b0_len] at HEN
  have hval : MTx.val ⟨0, [⟨⟨z32, 0, [], 0, []⟩, none, 0⟩], some ⟨w.heap.size, 0, none⟩, 1, [⟨0, []⟩], some ⟨w.heap.size + 1, 0, none⟩, 1, 0⟩ = .agg #[.int .i32 0, .slice (some ⟨w.heap.size, 0, none⟩) 1 1, .slice (some ⟨w.heap.size + 1, 0, none⟩) 1 1, .int .u32 0] := rfl
  rw [hval] at HEN
  have HL1 := Lib.hid (fun parts hp => lit_in w ZIN ZIN_len parts hp)
  rw [← e1] at HL1
  have HL2 := Lib.hid (fun parts hp => lit_out W1 ⟨0, []⟩ parts hp)
  have HE2 : Hid (W2 = W1.alloc (.cells (TOut.cells ⟨0, []⟩).toArray 49)) := Lib.hid e2
  rw [← HE2.out, s1] at HL2
  have HE3 := Lib.hid e3
  have d0 := x3.c0
  have d1 := x3.c1
  have d2 := x3.c2
  have d3 := x3.c3
  have HS2 := Lib.hid s2
  have HB := Lib.hid b13
  clear e1 e2 e3 b1 b2 b3 s1 x3 b23 b13 hT hp hval
  go_enter Try.func8, Try.ntmps8
  go_upto_region 2 with (first
    | (refine wpList_of_wp rfl fun K hK => wp_built 58 _ rfl ZIN.toArray (by simpa using built_in) (hK _ _ ?_))
    | (refine arm_build1 22 (.tmp 7) (v' := ?_) (w' := ?_) ?hr ?_; case hr => exact HL1.out _ rfl)
    | (refine arm_build1 23 (.tmp 9) (v' := ?_) (w' := ?_) ?hr2 ?_; case hr2 => exact HL2.out _ rfl))
  rw [← HE3.out]
  go_wp2_with fail
  refine HEN.out.mono ?_
  rintro ee w4 ⟨v4, rfl, h4, _, b4⟩
  have bf4 := h4 trivial
  obtain ⟨A, c, rfl, hcl, hrd⟩ := bf4.slice
  have hcm := bf4.cap_le
  unfold maxLen at hcm
  have HDE := Lib.hid (decode_any w4 A 60 c B0 hrd b0_lt (by omega) hcl (by omega))
  have HB4 := Lib.hid (HB.out.trans (b4.mono HB.out.size))
  clear h4 b4 bf4 hcl hrd hcm d0 d1 d2 d3
  go_wp2_with fail
  refine HDE.out.mono ?_
  rintro ee w5 ⟨t, rfl, htp, hta, b5⟩
  obtain ⟨q1, q2, q3, q4⟩ := b0_dec
  rw [q1, q2]
  have hi1 : t.ins.length = 1 := by rw [← q3, ← htp]; simp [MTx.p]
  have ho1 : t.outs.length = 1 := by rw [← q4, ← htp]; rfl
  obtain ⟨ver, ins, ia, ic, outs, oa, oc, lock⟩ := t
  simp only at hi1 ho1
  rw [show MTx.val ⟨ver, ins, ia, ic, outs, oa, oc, lock⟩ = .agg #[.int .i32 ver, .slice ia 1 ic, .slice oa 1 oc, .int .u32 (lock : Int)] by simp only [MTx.val, hi1, ho1]]
  have HB5 := Lib.hid (HB4.out.trans (b5.mono HB4.out.size))
  obtain ⟨W6, e6⟩ : ∃ W6, W6 = w5.alloc (.cells #[.int .i32 ver, .slice ia 1 ic, .slice oa 1 oc, .int .u32 (lock : Int)] 26) := ⟨_, rfl⟩
  have x6 : Bx4 W6 w5.heap.size (.int .i32 ver) (.slice ia 1 ic) (.slice oa 1 oc) (.int .u32 (lock : Int)) := by rw [e6]; exact Bx4.new _ _ _ _ _ _
  have HB6 : Hid (Below w.heap.size w W6) := Lib.hid (by rw [e6]; exact HB5.out.alloc HB5.out.size _)
  have c1 := x6.c1
  have c2 := x6.c2
  have HE6 := Lib.hid e6
  clear htp hta b5 q1 q2 q3 q4 hi1 ho1 e6 x6
  go_upto_region 4 with fail
  rw [← HE6.out]
  go_wp2
  go_ret
  exact ⟨rfl, HB6.out⟩
end Go.Proofs.Ytkdkihacpjhgmaa
