/- Walks: Outer. -/
import Derived.Test.YtalcdmpjpphopaaK3
import Derived.Test.YtalcdmpjpphopaaConv
import Derived.Test.YtalcdmpjpphopaaAt4
namespace Go.Proofs.Ytalcdmpjpphopaa
set_option linter.unusedSimpArgs false
set_option linter.unusedVariables false
open Go.RowKit

/-- A key and a number that are right. -/
def okE (k : List Nat) (S : Nat) : Prop := k ≠ [] ∧ k.length ≤ 128 ∧ S ≤ 72057594037927935

theorem chk_ok (k : List Nat) (S : Nat) (d : Bool) (h : okE k S) : chk (strB k).size S d (⟨#[]⟩ : ByteArray).size = 0 := by
  obtain ⟨h1, h2, h3⟩ := h
  have : k.length ≠ 0 := fun e => h1 (List.eq_nil_of_length_eq_zero e)
  have e2 : (⟨#[]⟩ : ByteArray).size = 0 := rfl
  unfold chk
  rw [strB_size, e2, if_neg (by omega), if_neg (by omega)]

theorem bcell {W w1 : World} (hb : Below W.heap.size W w1) : (∀ b o, b < W.heap.size → w1.cell? ⟨b, o, none⟩ = W.cell? ⟨b, o, none⟩) ∧ (∀ b o, b < W.heap.size → w1.frozen? ⟨b, o, none⟩ = W.frozen? ⟨b, o, none⟩) :=
  ⟨fun b o h => hb.cell (p := ⟨b, o, none⟩) h, fun b o h => hb.frozen (p := ⟨b, o, none⟩) h⟩
def outE : Ending := .returned (.tuple #[ent ⟨#[]⟩ 0 false ⟨#[]⟩, .int .i64 2])

set_option maxHeartbeats 1000000 in
set_option maxRecDepth 100000 in
theorem outer_none (s : List Nat) (hs : ∀ c ∈ s, c < 256) (hl : s.length ≤ 1000000) (hc : M.cut [] s = none) (w : World) :
    Calls Try.prog 21 #[.string (strB s)] w fun e w' => e = outE ∧ Below w.heap.size w w' := by
  have HC := Lib.hid (cutk_any s hs hl)
  rw [hc] at HC
  clear hc
  unfold outE ent
  go_enter Try.func21, Try.ntmps21
  go_wp2_with fail
  refine (HC.out _).mono ?_
  rintro e w1 ⟨rfl, hb1⟩
  obtain ⟨hc, hf⟩ := bcell hb1
  have hbel := (((Below.refl w.heap.size w).alloc (Nat.le_refl _) (.cells #[.string ⟨#[]⟩, .int .u64 0, .bool false, .string ⟨#[]⟩] 45)).trans (hb1.mono (by simp)))
  unfold cut3
  go_wp2
  refine bodyPost_ret (v := .tuple #[ent ⟨#[]⟩ 0 false ⟨#[]⟩, .int .i64 2]) (by simp [results, Try.results21, go_sem, hc, hf]) rfl ⟨rfl, ?_⟩
  exact below_set4 hbel (Nat.le_refl _) _ _ _ _

set_option maxHeartbeats 1000000 in
set_option maxRecDepth 100000 in
theorem outer_long (s : List Nat) (hs : ∀ c ∈ s, c < 256) (hl : s.length ≤ 1000000) (k r : List Nat) (hc : M.cut [] s = some (k, r)) (hr : r.length ≠ 8) (w : World) :
    Calls Try.prog 21 #[.string (strB s)] w fun e w' => e = outE ∧ Below w.heap.size w w' := by
  have HC := Lib.hid (cutk_any s hs hl)
  rw [hc] at HC
  clear hc
  have hrs : (strB r).size = r.length := strB_size r
  have h8 : ((r.length : Int) != 8) = true := by simp; omega
  unfold outE ent
  go_enter Try.func21, Try.ntmps21
  go_wp2_with fail
  refine (HC.out _).mono ?_
  rintro e w1 ⟨rfl, hb1⟩
  obtain ⟨hc, hf⟩ := bcell hb1
  have hbel := (((Below.refl w.heap.size w).alloc (Nat.le_refl _) (.cells #[.string ⟨#[]⟩, .int .u64 0, .bool false, .string ⟨#[]⟩] 45)).trans (hb1.mono (by simp)))
  unfold cut3
  simp only [cutK, cutT]
  go_wp2
  refine bodyPost_ret (v := .tuple #[ent ⟨#[]⟩ 0 false ⟨#[]⟩, .int .i64 2]) (by simp [results, Try.results21, go_sem, hc, hf]) rfl ⟨rfl, ?_⟩
  exact below_set4 hbel (Nat.le_refl _) _ _ _ _

/-- The number that eight bytes say, all bits turned. -/
def nmb (r : List Nat) : Nat := M.turned (M.bv r 8)
theorem nmb_le (r : List Nat) : (nmb r : Int) ≤ 18446744073709551615 := by unfold nmb M.turned; omega

set_option maxHeartbeats 1000000 in
set_option maxRecDepth 100000 in
theorem outer_some (s : List Nat) (hs : ∀ c ∈ s, c < 256) (hl : s.length ≤ 1000000) (k r : List Nat) (hc : M.cut [] s = some (k, r)) (hr : r.length = 8) (hrb : ∀ c ∈ r, c < 256) (hkm : (strB k).size ≤ maxLen) (w : World)
    (z : Int) (hz : chk (strB k).size ((nmb r / 2 : Nat) : Int) (nmb r % 2 == 0) (⟨#[]⟩ : ByteArray).size = z) :
    Calls Try.prog 21 #[.string (strB s)] w fun e w' => e = (if z = 0 then .returned (.tuple #[ent (strB k) ((nmb r / 2 : Nat) : Int) (nmb r % 2 == 0) ⟨#[]⟩, .int .i64 0]) else outE) ∧ Below w.heap.size w w' := by
  have HC := Lib.hid (cutk_any s hs hl)
  rw [hc] at HC
  clear hc
  have hrs : (strB r).size = 8 := by rw [strB_size]; exact hr
  have hcv : ∀ w : World, (convert 9 25 (.string (strB r))).run Try.prog w = .ok (.slice (some ⟨w.heap.size, 0, none⟩) 8 (grownCap w 8 0 5)) (Lib.bytesWorld w 5 (strB r)) := fun w => by
    have := conv_back (P := Try.prog) w 9 25 5 r Try.underlying9 Try.underlying25 Try.underlying5
    rwa [hr] at this
  have hbv := M.bv_lt r hrb 8
  have hnot : bits BinOp.xor IntKind.u64 IntKind.u64.max ((M.bv r 8 : Nat) : Int) = ((nmb r : Nat) : Int) := not_u64 (M.bv r 8) (by omega)
  have hnle := nmb_le r
  have HR := Lib.hid hr
  have HRB := Lib.hid hrb
  have HZ := Lib.hid hz
  clear hr hrb hz
  have hd2 : (((nmb r : Nat) : Int) % 2 == 0) = (nmb r % 2 == 0) := by rw [Bool.eq_iff_iff]; simp; omega
  have hd1 : ((nmb r / 2 : Nat) : Int) = ((nmb r : Nat) : Int) / 2 := by omega
  have HD1 := Lib.hid hd1
  have HD2 := Lib.hid hd2
  rw [hd1] at HZ ⊢
  clear hd1 hd2
  generalize hN : nmb r = Q at *
  generalize hQ2 : (Q % 2 == 0) = D at *
  clear hN hQ2
  have hwq : IntKind.u64.wrap ((Q : Int) / 2) = (Q : Int) / 2 := by rw [IntKind.wrap_u64]; omega
  have htm : ((Q : Int).tmod 2 == 0) = D := by rw [Int.tmod_eq_emod_of_nonneg (by omega)]; exact HD2.out
  unfold ent
  generalize hE : (if z = 0 then Ending.returned (.tuple #[.agg #[.string (strB k), .int .u64 ((Q : Int) / 2), .bool D, .string ⟨#[]⟩], .int .i64 0]) else outE) = E0
  have HE := Lib.hid hE
  clear hE
  go_enter Try.func21, Try.ntmps21
  go_wp2_with fail
  refine (HC.out _).mono ?_
  rintro e w1 ⟨rfl, hb1⟩
  have a1 := (At4.new w (.string ⟨#[]⟩) (.int .u64 0) (.bool false) (.string ⟨#[]⟩) 45).below hb1 (by simp)
  have hs1 := a1.lt
  have hbel := (((Below.refl w.heap.size w).alloc (Nat.le_refl _) (.cells #[.string ⟨#[]⟩, .int .u64 0, .bool false, .string ⟨#[]⟩] 45)).trans (hb1.mono (by simp)))
  unfold cut3
  simp only [cutK, cutT]
  have hb2 := bytes_below w1 5 (strB r)
  have hr2 := bytes_rd w1 5 r HRB.out
  have HS2 := Lib.hid (Lib.bytesWorld_size w1 5 (strB r))
  rw [HR.out] at hr2
  go_wp2_with fail
  refine (big_any _ 8 _ r _ _ hr2 HRB.out (by omega)).mono ?_
  rintro e w2 ⟨rfl, rfl⟩
  have hb3 := hbel.trans (hb2.mono (by omega))
  have a2 := a1.below hb2 hs1
  generalize Lib.bytesWorld w1 5 (strB r) = W2 at *
  rw [show min 8 8 = 8 from rfl]
  go_wp2_with fail
  refine (check_any (strB k) _ _ ⟨#[]⟩ hkm (by show 0 ≤ maxLen; omega) _).mono ?_
  rintro e w3 ⟨rfl, hb4⟩
  rw [HZ.out]
  have a3 := (a2.alloc (.cells #[.string (strB k), .int .u64 ((Q : Int) / 2), .bool D, .string ⟨#[]⟩] 45)).below hb4 (by have := HS2.out; simp; omega)
  have a4 := (At4.new W2 (.string (strB k)) (.int .u64 ((Q : Int) / 2)) (.bool D) (.string ⟨#[]⟩) 45).below hb4 (by simp)
  have hbel4 := (hb3.alloc (by have := HS2.out; omega) _).trans (hb4.mono (by have := HS2.out; simp; omega))
  obtain ⟨p0, p1, p2, p3, q0, q1, q2, q3⟩ := a3
  obtain ⟨x0, x1, x2, x3, _, _, _, _⟩ := a4
  by_cases hz0 : z = 0
  · subst hz0
    go_wp2
    refine bodyPost_ret (v := .tuple #[.agg #[.string (strB k), .int .u64 ((Q : Int) / 2), .bool D, .string ⟨#[]⟩], .int .i64 0]) (by simp [results, Try.results21, go_sem, p0, p1, p2, p3, q0, q1, q2, q3, x0, x1, x2, x3]) rfl ⟨?_, ?_⟩
    · rw [← HE.out]; exact (if_pos (by simp)).symm
    · exact below_set4 hbel4 (Nat.le_refl _) _ _ _ _
  · have hz1 : (z != 0) = true := by simpa using hz0
    go_wp2
    refine bodyPost_ret (v := .tuple #[.agg #[.string ⟨#[]⟩, .int .u64 0, .bool false, .string ⟨#[]⟩], .int .i64 2]) (by simp [results, Try.results21, go_sem, p0, p1, p2, p3, q0, q1, q2, q3, x0, x1, x2, x3]) rfl ⟨?_, ?_⟩
    · rw [← HE.out, if_neg hz0]; rfl
    · exact below_set4 hbel4 (Nat.le_refl _) _ _ _ _

theorem nmb_inner (S : Nat) (d : Bool) (h : S ≤ 72057594037927935) : nmb (M.beB (M.turned (M.num2 S d)) 8) = M.num2 S d := by
  have hnl := M.num2_lt S d h
  unfold nmb
  rw [M.bv_beB _ _ (by unfold M.turned; omega), M.turned_turned _ (by omega)]

theorem outer_yes (k : List Nat) (hk : ∀ c ∈ k, c < 256) (S : Nat) (d : Bool) (hok : okE k S) (w : World) :
    Calls Try.prog 21 #[.string (strB (M.inner k S d))] w fun e w' => e = .returned (.tuple #[ent (strB k) S d ⟨#[]⟩, .int .i64 0]) ∧ Below w.heap.size w w' := by
  have hel := M.esc_len k
  have hil := M.inner_len k S d
  have hq := nmb_inner S d hok.2.2
  have hq1 : M.num2 S d / 2 = S := by unfold M.num2; cases d <;> simp; omega
  have hq2 : ((M.num2 S d % 2 : Nat) == 0) = d := by unfold M.num2; cases d <;> simp
  have := outer_some (M.inner k S d) (M.inner_lt k S d hk) (by have := hok.2.1; omega) k (M.beB (M.turned (M.num2 S d)) 8) ((M.cut_iff _ _ _).2 rfl) (M.beB_len _ _) (M.beB_lt _ _)
    (by rw [strB_size]; have := hok.2.1; unfold maxLen; omega) w 0 (by rw [hq, hq1, hq2]; exact chk_ok k S d hok)
  rw [hq, hq1, hq2, if_pos rfl] at this
  exact this

theorem outer_no (s : List Nat) (hs : ∀ c ∈ s, c < 256) (hl : s.length ≤ 1000000) (hno : ∀ k S d, okE k S → s ≠ M.inner k S d) (w : World) :
    Calls Try.prog 21 #[.string (strB s)] w fun e w' => e = outE ∧ Below w.heap.size w w' := by
  cases hc : M.cut [] s with
  | none => exact outer_none s hs hl hc w
  | some p =>
    obtain ⟨k, r⟩ := p
    by_cases hr : r.length = 8
    · have he := (M.cut_iff _ _ _).1 hc
      have hrb : ∀ c ∈ r, c < 256 := fun c h => hs c (by rw [he]; simp [h])
      have hel := M.esc_len k
      have hkl : k.length ≤ 1000000 := by
        have := congrArg List.length he
        simp at this
        omega
      have hz : chk (strB k).size ((nmb r / 2 : Nat) : Int) (nmb r % 2 == 0) (⟨#[]⟩ : ByteArray).size ≠ 0 := by
        intro hz
        have e2 : (⟨#[]⟩ : ByteArray).size = 0 := rfl
        rw [e2, strB_size] at hz
        have hok : okE k (nmb r / 2) := by
          unfold chk at hz
          split at hz
          · cases hz
          · split at hz
            · cases hz
            · refine ⟨fun e => ?_, by omega, by omega⟩
              subst e
              simp at *
        refine hno k (nmb r / 2) (nmb r % 2 == 0) hok ?_
        have hbv := M.bv_lt r hrb 8
        have hn2 : M.num2 (nmb r / 2) (nmb r % 2 == 0) = nmb r := by
          unfold M.num2
          by_cases hh : nmb r % 2 = 0
          · rw [if_pos (by simpa using hh)]; omega
          · rw [if_neg (by simpa using hh)]; omega
        rw [he]
        unfold M.inner
        rw [hn2, nmb, M.turned_turned _ (by omega), M.beB_bv r hrb 8 (by omega), List.take_of_length_le (by omega)]
      have := outer_some s hs hl k r hc hr hrb (by rw [strB_size]; unfold maxLen; omega) w _ rfl
      rw [if_neg hz] at this
      exact this
    · exact outer_long s hs hl k r hc hr w
end Go.Proofs.Ytalcdmpjpphopaa
