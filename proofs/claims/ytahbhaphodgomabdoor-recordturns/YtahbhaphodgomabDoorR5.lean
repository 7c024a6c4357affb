/- A record that was laid, read; cut short. The law's head. -/
import Derived.Test.YtahbhaphodgomabDoorR4
namespace Go.Proofs.YtahbhaphodgomabDoor
set_option linter.unusedSimpArgs false
set_option linter.unusedVariables false
open Go.RowKit

theorem lv4_leB (n : Nat) (rest : List Nat) (h : n < 4294967296) : lv4 (M.leB n 4 ++ rest) = n := by
  unfold lv4
  rw [M.lv_leB]
  exact Nat.mod_eq_of_lt (by simpa using h)

theorem rec_parts (d more : List Nat) : (recB d ++ more).take 4 = M.leB d.length 4 ∧ recB d ++ more = M.leB d.length 4 ++ (M.leB (ck (M.leB d.length 4)) 4 ++ (M.leB (ck d) 4 ++ (d ++ more))) ∧
    (recB d ++ more).drop 4 = M.leB (ck (M.leB d.length 4)) 4 ++ (M.leB (ck d) 4 ++ (d ++ more)) ∧ (recB d ++ more).drop 8 = M.leB (ck d) 4 ++ (d ++ more) ∧ (recB d ++ more).drop 12 = d ++ more := by
  have e : recB d ++ more = M.leB d.length 4 ++ (M.leB (ck (M.leB d.length 4)) 4 ++ (M.leB (ck d) 4 ++ (d ++ more))) := by simp [recB, hdr]
  have h4 : (M.leB d.length 4).length = 4 := M.leB_len _ _
  have h8 : (M.leB (ck (M.leB d.length 4)) 4).length = 4 := M.leB_len _ _
  have h12 : (M.leB (ck d) 4).length = 4 := M.leB_len _ _
  have d4 : (recB d ++ more).drop 4 = M.leB (ck (M.leB d.length 4)) 4 ++ (M.leB (ck d) 4 ++ (d ++ more)) := by rw [e, List.drop_left' h4]
  have d8 : (recB d ++ more).drop 8 = M.leB (ck d) 4 ++ (d ++ more) := by
    have : (recB d ++ more).drop 8 = ((recB d ++ more).drop 4).drop 4 := by rw [List.drop_drop]
    rw [this, d4, List.drop_left' h8]
  refine ⟨by rw [e, List.take_left' h4], e, d4, d8, ?_⟩
  have : (recB d ++ more).drop 12 = ((recB d ++ more).drop 8).drop 4 := by rw [List.drop_drop]
  rw [this, d8, List.drop_left' h12]

theorem next_rec (d more : List Nat) (hl : d.length ≤ 1048576) : nE (recB d ++ more) = 0 ∧ nD (recB d ++ more) = d ∧ nN (recB d ++ more) = 12 + d.length := by
  obtain ⟨p1, p2, p3, p4, p5⟩ := rec_parts d more
  have hlen : (recB d ++ more).length = 12 + d.length + more.length := by rw [List.length_append, recB_len]
  have l1 : lv4 (recB d ++ more) = d.length := by rw [p2]; exact lv4_leB _ _ (by omega)
  have l2 : lv4 ((recB d ++ more).drop 4) = ck (M.leB d.length 4) := by rw [p3]; exact lv4_leB _ _ (ck_lt _)
  have l3 : lv4 ((recB d ++ more).drop 8) = ck d := by rw [p4]; exact lv4_leB _ _ (ck_lt _)
  have l4 : ((recB d ++ more).drop 12).take d.length = d := by rw [p5, List.take_left' rfl]
  have hE : nE (recB d ++ more) = 0 := by
    unfold nE
    rw [l1, l2, l3, p1, l4, hlen, if_neg (by omega), if_neg, if_neg (by omega), if_neg (by simp)]
    rintro (h | h)
    · exact h rfl
    · omega
  exact ⟨hE, by unfold nD; rw [if_pos hE, l1, l4], by unfold nN; rw [if_pos hE, l1]⟩

theorem next_cut (d : List Nat) (hl : d.length ≤ 1048576) (j : Nat) (hj : j < 12 + d.length) : nE ((recB d).take j) = 8 := by
  have hlen := recB_len d
  have hlj : ((recB d).take j).length = j := by rw [List.length_take]; omega
  by_cases h12 : j < 12
  · unfold nE; rw [if_pos (by omega)]
  · obtain ⟨p1, p2, p3, p4, p5⟩ := rec_parts d []
    rw [List.append_nil] at p1 p2 p3 p4 p5
    have t1 : lv4 ((recB d).take j) = d.length := by
      have : lv4 ((recB d).take j) = lv4 (recB d) := lv_take _ 4 j (by omega)
      rw [this, p2]; exact lv4_leB _ _ (by omega)
    have t2 : lv4 (((recB d).take j).drop 4) = ck (M.leB d.length 4) := by
      rw [List.drop_take, p3]
      have : lv4 ((M.leB (ck (M.leB d.length 4)) 4 ++ (M.leB (ck d) 4 ++ (d ++ []))).take (j - 4)) = lv4 (M.leB (ck (M.leB d.length 4)) 4 ++ (M.leB (ck d) 4 ++ (d ++ []))) := lv_take _ 4 (j - 4) (by omega)
      rw [this]; exact lv4_leB _ _ (ck_lt _)
    have t3 : ((recB d).take j).take 4 = M.leB d.length 4 := by rw [List.take_take, show min 4 j = 4 by omega, p1]
    unfold nE
    rw [t1, t2, t3, hlj, if_neg (by omega), if_neg, if_pos (by omega)]
    rintro (h | h)
    · exact h rfl
    · omega

theorem laid_len {w w' : World} {base : Nat} {v v' : Value} {n : Nat} {xs : List Value} (h : Laid w base v w' v' n xs) : ∃ A c, v' = .slice A n c ∧ n ≤ c ∧ c ≤ maxLen ∧ Rd w' w'.heap.size A n xs := by
  obtain ⟨A, c, rfl, hc, hr⟩ := h.buf.slice
  exact ⟨A, c, rfl, hc, h.buf.cap_le, hr⟩

set_option maxHeartbeats 1000000 in
set_option maxRecDepth 100000 in
theorem head_any (w : World) (ht : TabAt w) : Calls Tryd.prog 9 #[] w fun e w' => e = .returned (.bool true) ∧ Below w.heap.size w w' := by
  obtain ⟨i0, hi, hz0, hz1, hz2⟩ := info_parts Tryd.info5
  have HT := Lib.hid ht
  clear ht
  have hd0 : bys [] = [] := rfl
  go_enter Tryd.func9, Tryd.ntmps9
  go_wp2_with fail
  refine (put_any none 0 0 [] w w.heap.size (Buf.nil w _) (by omega) (Nat.le_refl _) Rd.nil (by simp) (by omega) (fun _ _ h => by cases h) HT.out).mono ?_
  rintro e w1 ⟨v1, rfl, hl1⟩
  have hb1 := hl1.below (Buf.nil w _) (Nat.le_refl _)
  have ht1 := HT.out.below hb1 HT.out.1
  rw [Nat.zero_add, List.nil_append, Nat.add_zero] at hl1
  obtain ⟨A, c, rfl, hc, hcm, hr⟩ := laid_len hl1
  have hnr := next_rec [] [] (by simp)
  rw [List.append_nil] at hnr
  have hr11 := hr.take 11 (by omega)
  rw [← bys_take] at hr11
  have hbb := recB_lt [] (by simp)
  have hs1 := fun wx => run_slice_h (P := Tryd.prog) wx 22 5 i0 Tryd.underlying22 hi hz1 A 12 c 11 (by omega) .i64 11 rfl
  have HN1 := Lib.hid (next_any A 11 c ((recB []).take 11) w1 hr11 (fun x hx => hbb x (List.mem_of_mem_take hx)) (by omega) (by omega) hcm ht1)
  have HE1 := Lib.hid (next_cut [] (by simp) 11 (by simp))
  go_wp2_with fail
  refine HN1.out.mono ?_
  rintro e w2 ⟨v2, rfl, hl2⟩
  rw [HE1.out]
  have hb2 := hl2.below (Buf.nil w1 _) (Nat.le_refl _)
  have hr2 := hr.below hb2
  have HN2 := Lib.hid (next_any A 12 c (recB []) w2 (hr2.up hb2.size) hbb (by omega) hc hcm (ht1.below hb2 ht1.1))
  go_wp2_with fail
  refine HN2.out.mono ?_
  rintro e w3 ⟨v3, rfl, hl3⟩
  rw [hnr.1, hnr.2.2]
  rw [hnr.2.1] at hl3
  have hb3 := hl3.below (Buf.nil w2 _) (Nat.le_refl _)
  obtain ⟨A3, c3, rfl, _, _, _⟩ := laid_len hl3
  have hbe := (hb1.trans (hb2.mono hb1.size))
  have hbe3 := hbe.trans (hb3.mono hbe.size)
  clear hnr HE1
  go_wp2_with fail
  go_ret
  exact ⟨rfl, hbe3⟩
end Go.Proofs.YtahbhaphodgomabDoor
