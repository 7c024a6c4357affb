/- A Table in memory: Get. -/
import Derived.Test.YtgdkcnpgnmmliabS7
namespace Go.Proofs.Ytgdkcnpgnmmliab
set_option linter.unusedSimpArgs false
set_option linter.unusedVariables false
open Go.RowKit

def kEn (a : ByteArray) (s : Int) : En := ⟨a, s, false, ⟨#[]⟩⟩
/-- What Get tells. -/
def getE (L : List En) (a : ByteArray) (s : Int) : En × Bool :=
  if (atE L (pos cmpE L (kEn a s) : Nat)).2 = true ∧ (atE L (pos cmpE L (kEn a s) : Nat)).1.k = a then atE L (pos cmpE L (kEn a s) : Nat) else (zEn, false)
theorem beqB (a b : ByteArray) (h : a = b) : (a.toList == b.toList) = true := by subst h; simp
theorem beqB' (a b : ByteArray) (h : a ≠ b) : (a.toList == b.toList) = false := by
  rw [beq_eq_false_iff_ne]; exact fun e => h (toList_inj e)

set_option maxHeartbeats 1000000 in
theorem get_any (base gt gs : Nat) (v : Value) (L : List En) (a : ByteArray) (s : Int) (w : World) (h : Tb w base gt gs v L) (hn6 : (L.length : Int) ≤ 1000000) :
    Calls Try.prog 26 #[.pointer (some ⟨gt, 0, none⟩), .string a, .int .u64 s] w fun e w' => e = .returned (.tuple #[(getE L a s).1.val, .bool (getE L a s).2]) ∧ Below w.heap.size w w' := by
  have HF := Lib.hid (fun W (hb : Below w.heap.size w W) => from_any base gt gs v L (kEn a s) W (h.below hb) hn6)
  have HA := Lib.hid (fun W (hb : Below w.heap.size w W) => tat_any base gt gs (pos cmpE L (kEn a s) : Nat) v L W (h.below hb) hn6)
  unfold getE
  generalize pos cmpE L (kEn a s) = p at *
  generalize atE L (p : Int) = r at *
  obtain ⟨y, ok⟩ := r
  generalize hR : (if ok = true ∧ y.k = a then (y, ok) else (zEn, false)) = R
  have HR := Lib.hid hR
  clear hR h
  go_enter Try.func26, Try.ntmps26
  go_upto_region 1 with fail
  generalize hw0 : w.alloc (.cells #[.string ⟨#[]⟩, .int .u64 0, .bool false, .string ⟨#[]⟩] 42) = w0
  have HB0 : Hid (Below w.heap.size w w0) := by rw [← hw0]; exact Lib.hid ((Below.refl _ _).alloc (Nat.le_refl _) _)
  have HX0 : Hid (Bx4 w0 w.heap.size (.string ⟨#[]⟩) (.int .u64 0) (.bool false) (.string ⟨#[]⟩)) := by rw [← hw0]; exact Lib.hid (Bx4.new w _ _ _ _ _)
  clear hw0
  go_upto_region 2 with (first
    | (go_at_call 25; refine (HF.out _ HB0.out).mono ?_; rintro e w1 ⟨rfl, hb1⟩
       have HB1 := Lib.hid (HB0.out.trans (hb1.mono (Nat.le_of_lt HX0.out.lt)))
       have HX1 := Lib.hid (HX0.out.keep (hb1.block _ HX0.out.lt))
       clear hb1)
    | (go_at_call 24; refine (HA.out _ HB1.out).mono ?_; rintro e w2 ⟨rfl, hb2⟩
       have HB2 := Lib.hid (HB1.out.trans (hb2.mono (Nat.le_of_lt HX1.out.lt)))
       have HX2 := Lib.hid (HX1.out.keep (hb2.block _ HX1.out.lt))
       clear hb2))
  generalize hw3 : w2.alloc (.cells #[.string y.k, .int .u64 y.S, .bool y.d, .string y.v] 42) = w3
  have b3 : Below w2.heap.size w2 w3 := by rw [← hw3]; exact (Below.refl _ _).alloc (Nat.le_refl _) _
  have Y3 : Bx4 w3 w2.heap.size (.string y.k) (.int .u64 y.S) (.bool y.d) (.string y.v) := by rw [← hw3]; exact Bx4.new w2 _ _ _ _ _
  have HB3 := Lib.hid (HB2.out.trans (b3.mono (Nat.le_of_lt HX2.out.lt)))
  have X := HX2.out.keep (b3.block _ HX2.out.lt)
  have a0 := X.c0
  have a1 := X.c1
  have a2 := X.c2
  have a3 := X.c3
  have z0 := X.cold 0
  have z1 := X.cold 1
  have z2 := X.cold 2
  have z3 := X.cold 3
  have y0 := Y3.c0
  have y1 := Y3.c1
  have y2 := Y3.c2
  have y3 := Y3.c3
  clear hw3 b3 Y3 X
  cases ok with
  | false =>
    go_wp2
    have q := (At4.mk a0 a1 a2 a3 z0 z1 z2 z3).set (.string zEn.k) (.int .u64 zEn.S) (.bool zEn.d) (.string zEn.v)
    have hbw := below_set4 HB3.out (Nat.le_refl _) (.string zEn.k) (.int .u64 zEn.S) (.bool zEn.d) (.string zEn.v)
    generalize ((((w3.setCell ⟨w.heap.size, 0, none⟩ (.string zEn.k)).setCell ⟨w.heap.size, 1, none⟩ (.int .u64 zEn.S)).setCell ⟨w.heap.size, 2, none⟩ (.bool zEn.d)).setCell ⟨w.heap.size, 3, none⟩ (.string zEn.v)) = W at q hbw ⊢
    obtain ⟨q0, q1, q2, q3, _, _, _, _⟩ := q
    exact bodyPost_ret (v := .tuple #[zEn.val, .bool false]) (by simp [results, Try.results26, go_sem, q0, q1, q2, q3]) rfl ⟨by rw [← HR.out, if_neg (by simp)], hbw⟩
  | true =>
    by_cases hya : y.k = a
    · have e1 := beqB y.k a hya
      have e2 : (y.k.toList != a.toList) = false := by simp [bne, e1]
      have HY := Lib.hid hya
      clear hya
      go_wp2
      have q := (At4.mk a0 a1 a2 a3 z0 z1 z2 z3).set (.string y.k) (.int .u64 y.S) (.bool y.d) (.string y.v)
      have hbw := below_set4 HB3.out (Nat.le_refl _) (.string y.k) (.int .u64 y.S) (.bool y.d) (.string y.v)
      generalize ((((w3.setCell ⟨w.heap.size, 0, none⟩ (.string y.k)).setCell ⟨w.heap.size, 1, none⟩ (.int .u64 y.S)).setCell ⟨w.heap.size, 2, none⟩ (.bool y.d)).setCell ⟨w.heap.size, 3, none⟩ (.string y.v)) = W at q hbw ⊢
      obtain ⟨q0, q1, q2, q3, _, _, _, _⟩ := q
      exact bodyPost_ret (v := .tuple #[y.val, .bool true]) (by simp [results, Try.results26, go_sem, q0, q1, q2, q3]) rfl ⟨by rw [← HR.out, if_pos (by simp [HY.out])], hbw⟩
    · have e1 := beqB' y.k a hya
      have e2 : (y.k.toList != a.toList) = true := by simp [bne, e1]
      have HY := Lib.hid hya
      clear hya
      go_wp2
      have q := (At4.mk a0 a1 a2 a3 z0 z1 z2 z3).set (.string zEn.k) (.int .u64 zEn.S) (.bool zEn.d) (.string zEn.v)
      have hbw := below_set4 HB3.out (Nat.le_refl _) (.string zEn.k) (.int .u64 zEn.S) (.bool zEn.d) (.string zEn.v)
      generalize ((((w3.setCell ⟨w.heap.size, 0, none⟩ (.string zEn.k)).setCell ⟨w.heap.size, 1, none⟩ (.int .u64 zEn.S)).setCell ⟨w.heap.size, 2, none⟩ (.bool zEn.d)).setCell ⟨w.heap.size, 3, none⟩ (.string zEn.v)) = W at q hbw ⊢
      obtain ⟨q0, q1, q2, q3, _, _, _, _⟩ := q
      exact bodyPost_ret (v := .tuple #[zEn.val, .bool false]) (by simp [results, Try.results26, go_sem, q0, q1, q2, q3]) rfl ⟨by rw [← HR.out, if_neg (fun h => HY.out h.2)], hbw⟩
end Go.Proofs.Ytgdkcnpgnmmliab
