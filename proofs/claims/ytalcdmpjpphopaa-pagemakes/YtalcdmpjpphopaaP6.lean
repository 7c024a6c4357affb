/- Walks: the reader's pair. -/
import Derived.Test.YtalcdmpjpphopaaP5
namespace Go.Proofs.Ytalcdmpjpphopaa
set_option linter.unusedSimpArgs false
set_option linter.unusedVariables false
open Go.RowKit

theorem rdT_lt (s : St) (n : Nat) (hb : ∀ x ∈ s.1, x < 256) : ∀ x ∈ (rdT s n).1, x < 256 := by
  unfold rdT
  split
  · simp
  · exact fun x hx => hb x (List.mem_of_mem_take hx)
theorem strB_take0 (s : List Nat) (j : Nat) : (strB s).extract 0 j = strB (s.take j) := by
  unfold strB
  rw [ByteArray.ext_iff]
  simp [ByteArray.data_extract, List.map_take]
def prV (p : Pr) : Value := .agg #[.string (strB p.1), .string (strB p.2)]

theorem Rdr.set {w W : World} {B gr gq : Nat} {s : St} (h : Rdr W B gr s) (t : Tch w W [gr]) (hne : gr < gq) (hq : w.heap.size ≤ gq) (p : Nat) (v : Value) : Rdr (W.setCell ⟨gq, p, none⟩ v) B gr s ∧ Tch w (W.setCell ⟨gq, p, none⟩ v) [gr] := by
  obtain ⟨A, c, h1, h2, h3⟩ := h.box
  refine ⟨⟨⟨A, c, h1.keep (Below.heap_setCell W ⟨gq, p, none⟩ v gr (by show gr ≠ gq; omega)), h2.below ((Below.refl B W).setCell (p := ⟨gq, p, none⟩) (by have := h.lo; show B ≤ gq; omega) v), h3⟩, h.lt, h.lo, h.few⟩, ?_⟩
  exact t.trans (Tch.of_grown (grown_setCell W ⟨gq, p, none⟩ v) (L := [gq]) (by simp)) (by intro i hi; simp at hi; subst hi; exact .inr hq)
theorem Rdr.set2 {w W : World} {B gr gq : Nat} {s : St} {a b : Value} (h : Rdr W B gr s) (t : Tch w W [gr]) (hne : gr < gq) (hq : w.heap.size ≤ gq) (x : Bx2 W gq a b) (u v : Value) :
    Rdr ((W.setCell ⟨gq, 0, none⟩ u).setCell ⟨gq, 1, none⟩ v) B gr s ∧ Tch w ((W.setCell ⟨gq, 0, none⟩ u).setCell ⟨gq, 1, none⟩ v) [gr] ∧ Bx2 ((W.setCell ⟨gq, 0, none⟩ u).setCell ⟨gq, 1, none⟩ v) gq u v := by
  obtain ⟨h1, t1⟩ := h.set t hne hq 0 u
  obtain ⟨h2, t2⟩ := h1.set t1 hne hq 1 v
  exact ⟨h2, t2, (x.set0 u).set1 v⟩

set_option maxHeartbeats 2000000 in
set_option maxRecDepth 100000 in
theorem pair_any (w : World) (B gr : Nat) (s : St) (a : List Nat) (ha : a.length ≤ 1000000) (h : Rdr w B gr s) :
    Calls Try.prog 41 #[.pointer (some ⟨gr, 0, none⟩), .string (strB a)] w fun e w' => e = .returned (prV (rdP s a).1) ∧ Rdr w' B gr (rdP s a).2 ∧ Tch w w' [gr] := by
  have HP : Hid (rdP s a = if a.length < (rdN s).1 then (([], []), bad)
    else ((a.take (rdN s).1 ++ (rdT (rdN (rdN (rdN s).2).2).2 (rdN (rdN s).2).1).1, (rdT (rdT (rdN (rdN (rdN s).2).2).2 (rdN (rdN s).2).1).2 (rdN (rdN (rdN s).2).2).1).1), (rdT (rdT (rdN (rdN (rdN s).2).2).2 (rdN (rdN s).2).1).2 (rdN (rdN (rdN s).2).2).1).2)) := Lib.hid rfl
  have hsz := strB_size a
  have HTL := Lib.hid (fun (u : St) (m : Nat) => rdT_le u m)
  have HNUM := Lib.hid (fun W u (hu : Rdr W B gr u) => number_any W B gr u hu)
  have HTXT := Lib.hid (fun W u m (hm : m < 18446744073709551616) (hu : Rdr W B gr u) => text_any W B gr u m hm hu)
  have HSTP := Lib.hid (fun W u (hu : Rdr W B gr u) => stop_any W B gr u hu)
  have HNL := Lib.hid (fun (u : St) (hu : ∀ x ∈ u.1, x < 256) => rdN_lt u hu)
  have hgl := h.gr_lt
  obtain ⟨w1, hw1⟩ : ∃ w1, w1 = w.alloc (.cells #[.string ⟨#[]⟩, .string ⟨#[]⟩] 30) := ⟨_, rfl⟩
  have b1 : Below w.heap.size w w1 := by rw [hw1]; exact (Below.refl _ _).alloc (Nat.le_refl _) _
  have H1 := Lib.hid (h.below b1)
  have T1 : Hid (Tch w w1 [gr]) := Lib.hid (Tch.of_below _ b1)
  obtain ⟨gq, hgq⟩ : ∃ gq, gq = w.heap.size := ⟨_, rfl⟩
  have X1 : Bx2 w1 gq (.string ⟨#[]⟩) (.string ⟨#[]⟩) := by rw [hw1, hgq]; exact Bx2.new _ _ _ _
  have HX1 := Lib.hid X1
  have hne : gr < gq := by omega
  have HGQ := Lib.hid hgq
  have HTR := Lib.hid (fun (W W' : World) (t1 : Tch w W [gr]) (t2 : Tch W W' [gr]) => (t1.trans t2 (fun i hi => .inl hi) : Tch w W' [gr]))
  have HXK := Lib.hid (fun (W W' : World) (t2 : Tch W W' [gr]) (x : Bx2 W gq (.string ⟨#[]⟩) (.string ⟨#[]⟩)) => (x.keep (t2.block gq x.lt (by simp; omega)) : Bx2 W' gq (.string ⟨#[]⟩) (.string ⟨#[]⟩)))
  rw [← hgq] at b1
  clear h b1 X1
  have HW1 := Lib.hid hw1
  go_enter Try.func41, Try.ntmps41
  go_upto_region 1 with fail
  rw [← hw1, ← hgq]
  clear hw1 hgq
  go_wp2_with fail
  refine (HNUM.out _ _ H1.out).mono ?_
  rintro e w2 ⟨rfl, h2, t2⟩
  have H2 := Lib.hid h2
  have T2 := Lib.hid (HTR.out _ _ T1.out t2)
  have X2 := Lib.hid (HXK.out _ _ t2 HX1.out)
  have hn1 := HNL.out s H1.out.lt
  clear h2 t2
  generalize hs2 : (rdN s).2 = s2 at *
  generalize (rdN s).1 = n1 at *
  go_wp2_with fail
  refine (HNUM.out _ _ H2.out).mono ?_
  rintro e w3 ⟨rfl, h3, t3⟩
  have H3 := Lib.hid h3
  have T3 := Lib.hid (HTR.out _ _ T2.out t3)
  have X3 := Lib.hid (HXK.out _ _ t3 X2.out)
  have hn2 := HNL.out s2 H2.out.lt
  clear h3 t3 hs2
  generalize hs3 : (rdN s2).2 = s3 at *
  generalize (rdN s2).1 = n2 at *
  go_wp2_with fail
  refine (HNUM.out _ _ H3.out).mono ?_
  rintro e w4 ⟨rfl, h4, t4⟩
  have H4 := Lib.hid h4
  have T4 := Lib.hid (HTR.out _ _ T3.out t4)
  have X4 := Lib.hid (HXK.out _ _ t4 X3.out)
  have hn3 := HNL.out s3 H3.out.lt
  clear h4 t4 hs3
  generalize hs4 : (rdN s3).2 = s4 at *
  generalize (rdN s3).1 = n3 at *
  clear hs4
  by_cases hlt : a.length < n1
  · have hlt' : (a.length : Int) < (n1 : Int) := by omega
    rw [if_pos hlt] at HP
    go_wp2_with fail
    refine (HSTP.out _ _ H4.out).mono ?_
    rintro e w5 ⟨rfl, h5, t5⟩
    have H5 := Lib.hid h5
    have T5 := Lib.hid (HTR.out _ _ T4.out t5)
    have X5 := HXK.out _ _ t5 X4.out
    have x0 := X5.c0
    have x1 := X5.c1
    have y0 := X5.cold 0
    have y1 := X5.cold 1
    have HE := Lib.hid (H5.out.set2 T5.out hne (by rw [HGQ.out]; exact Nat.le_refl _) X5 (.string ⟨#[]⟩) (.string ⟨#[]⟩))
    clear h5 t5 X5
    go_wp2
    have q0 := HE.out.2.2.c0
    have q1 := HE.out.2.2.c1
    exact bodyPost_ret (v := prV ([], [])) (by simp [results, Try.results41, go_sem, q0, q1, prV]; rfl) rfl ⟨by rw [HP.out], by rw [HP.out]; exact HE.out.1, HE.out.2.1⟩
  · have hlt' : (n1 : Int) ≤ (a.length : Int) := by omega
    rw [if_neg hlt] at HP
    have hst := strB_take0 a n1
    generalize hta : a.take n1 = ta at *
    have hta2 : ta.length ≤ 1000000 := by rw [← hta, List.length_take]; omega
    clear hta
    have hT := Lib.hid (HTXT.out w4 s4 n2 hn2 H4.out)
    have hTa := HTL.out s4 n2
    have hf4 := H4.out.few
    go_upto_region 5 with fail
    refine wp_region_noPanic ?_
    refine wp_region_held_drew (S := (fun _ => True)) (by kernel_rfl) (trivial) (fun hHeld => ?_)
    refine wpAnyH_take (i := 0) (v := ?_) (by simp only [List.getElem?_toArray, List.getElem?_cons_succ, List.getElem?_cons_zero]; rfl) (by kernel_rfl) (by kernel_rfl) (by kernel_rfl) (fun _ _ _ h => h) (Or.inl ⟨by rfl, ?_⟩) (by assumption) ?_
    rotate_left
    · (intro w hSw; (try dsimp only at hSw); go_simp; (try with_reducible rfl))
    (try simp only [Act.put, List.setIfInBounds_toArray, List.set_cons_zero, List.set_cons_succ])
    refine wpAnyH_take (i := 1) (v := ?_) (by simp only [List.getElem?_toArray, List.getElem?_cons_succ, List.getElem?_cons_zero]; rfl) (by kernel_rfl) (by kernel_rfl) (by kernel_rfl) (fun _ _ _ h => h) (Or.inl ⟨by rfl, ?_⟩) (by assumption) ?_
    rotate_left
    · (intro w hSw; (try dsimp only at hSw); go_simp; (try with_reducible rfl))
    (try simp only [Act.put, List.setIfInBounds_toArray, List.set_cons_zero, List.set_cons_succ])
    refine wpAnyH_take (i := 2) (v := ?_) (by simp only [List.getElem?_toArray, List.getElem?_cons_succ, List.getElem?_cons_zero]; rfl) (by kernel_rfl) (by kernel_rfl) (by kernel_rfl) (fun _ _ _ h => h) (Or.inl ⟨by rfl, ?_⟩) (by assumption) ?_
    rotate_left
    · (intro w hSw; (try dsimp only at hSw); go_simp; (try with_reducible rfl))
    (try simp only [Act.put, List.setIfInBounds_toArray, List.set_cons_zero, List.set_cons_succ])
    refine wpAnyH_take (i := 3) (v := ?_) (by simp only [List.getElem?_toArray, List.getElem?_cons_succ, List.getElem?_cons_zero]; rfl) (by kernel_rfl) (by kernel_rfl) (by kernel_rfl) (fun _ _ _ h => h) (Or.inl ⟨by rfl, ?_⟩) (by assumption) ?_
    rotate_left
    · (intro w hSw; (try dsimp only at hSw); go_simp; (try with_reducible rfl))
    (try simp only [Act.put, List.setIfInBounds_toArray, List.set_cons_zero, List.set_cons_succ])
    refine wpAnyH_take (i := 4) (v := ?_) (by simp only [List.getElem?_toArray, List.getElem?_cons_succ, List.getElem?_cons_zero]; rfl) (by kernel_rfl) (by kernel_rfl) (by kernel_rfl) (fun _ _ _ h => h) (Or.inl ⟨by rfl, ?_⟩) (by assumption) ?_
    rotate_left
    · (intro w hSw; (try dsimp only at hSw); go_simp; (try with_reducible rfl))
    (try simp only [Act.put, List.setIfInBounds_toArray, List.set_cons_zero, List.set_cons_succ])
    refine wpAnyH_ready (rs := [5]) (by kernel_rfl) (by simp) ?_
    refine AllReadyH.cons (by simp only [List.getElem?_toArray, List.getElem?_cons_succ, List.getElem?_cons_zero]; rfl) (fun K hK => ?_) AllReadyH.nil
    go_simp
    refine (HTXT.out w4.drew s4 n2 hn2 (H4.out.below (Below.refl _ _).drew)).mono ?_
    rintro ee w5 ⟨rfl, h5, t5⟩
    refine hK.out _ _ ?_ (fun hHeld => ?_)
    · exact trivial
    clear hK K
    (try simp only [Act.put, List.setIfInBounds_toArray, List.set_cons_zero, List.set_cons_succ])
    have hcat := strB_app ta (rdT s4 n2).1
    have hsz1 : ¬ 9223372036854775807 < (strB ta).size + (strB (rdT s4 n2).1).size := by rw [strB_size, strB_size]; omega
    have H5 := Lib.hid h5
    have T5 : Hid (Tch w w5 [gr]) := Lib.hid (HTR.out _ _ T4.out ⟨t5.os, t5.tape, t5.output, t5.size, t5.block⟩)
    have X5 := Lib.hid (HXK.out w4 _ ⟨t5.os, t5.tape, t5.output, t5.size, t5.block⟩ X4.out)
    have HCAT := Lib.hid hcat
    generalize hs5 : (rdT s4 n2).2 = s5 at *
    generalize htx : (rdT s4 n2).1 = tx at *
    clear htx hT hTa
    refine wpAnyH_take (i := 6) (v := ?_) (by simp only [List.getElem?_toArray, List.getElem?_cons_succ, List.getElem?_cons_zero]; rfl) (by kernel_rfl) (by kernel_rfl) (by kernel_rfl) (fun _ _ _ h => h) (Or.inl ⟨by rfl, ?_⟩) (by assumption) ?_
    rotate_left
    · (intro w hSw; (try dsimp only at hSw); go_simp; (try with_reducible rfl))
    (try simp only [Act.put, List.setIfInBounds_toArray, List.set_cons_zero, List.set_cons_succ])
    refine wpAnyH_take (i := 7) (v := ?_) (by simp only [List.getElem?_toArray, List.getElem?_cons_succ, List.getElem?_cons_zero]; rfl) (by kernel_rfl) (by kernel_rfl) (by kernel_rfl) (fun _ _ _ h => h) (Or.inl ⟨by rfl, ?_⟩) (by assumption) ?_
    rotate_left
    · (intro w hSw; (try dsimp only at hSw); go_simp; (try with_reducible rfl))
    (try simp only [Act.put, List.setIfInBounds_toArray, List.set_cons_zero, List.set_cons_succ])
    refine wpAnyH_done (by kernel_rfl) ?_ _
    refine NoPanic.normal ?_
    clear hHeld hcat hsz1 t5 h5 hs5
    go_wp2_with fail
    refine (HTXT.out w5 s5 n3 hn3 H5.out).mono ?_
    rintro e w6 ⟨rfl, h6, t6⟩
    have H6 := Lib.hid h6
    have T6 := Lib.hid (HTR.out _ _ T5.out t6)
    have X6 := HXK.out _ _ t6 X5.out
    have x0 := X6.c0
    have x1 := X6.c1
    have y0 := X6.cold 0
    have y1 := X6.cold 1
    clear h6 t6
    generalize (rdT s5 n3).2 = s6 at *
    generalize (rdT s5 n3).1 = vx at *
    have HE := Lib.hid (H6.out.set2 T6.out hne (by rw [HGQ.out]; exact Nat.le_refl _) X6 (.string (strB (ta ++ tx))) (.string (strB vx)))
    clear X6
    go_wp2
    have q0 := HE.out.2.2.c0
    have q1 := HE.out.2.2.c1
    exact bodyPost_ret (v := prV (ta ++ tx, vx)) (by simp [results, Try.results41, go_sem, q0, q1, prV]) rfl ⟨by rw [HP.out], by rw [HP.out]; exact HE.out.1, HE.out.2.1⟩
end Go.Proofs.Ytalcdmpjpphopaa
