/- The walk of MemSorts. -/
import Derived.Test.YtgdkcnpgnmmliabI4
import Derived.Deep.CutBlock
import Derived.Deep.DeepCutAuto
namespace Go.Proofs.Ytgdkcnpgnmmliab
set_option linter.unusedSimpArgs false
set_option linter.unusedVariables false
open Go.RowKit

theorem i64_and255 (n : Int) : bits .and .i64 n 255 = n % 256 := by
  have h63 : (BitVec.ofInt 64 255).toNat = 2 ^ 8 - 1 := by decide
  have key : (BitVec.ofInt 64 n &&& BitVec.ofInt 64 255).toNat = (n % ((2 ^ 64 : Nat) : Int)).toNat % 2 ^ 8 := by
    rw [BitVec.toNat_and, BitVec.toNat_ofInt, h63, Nat.and_two_pow_sub_one_eq_mod]
  show IntKind.i64.wrap ((BitVec.ofInt 64 n &&& BitVec.ofInt 64 255).toNat : Nat) = n % 256
  rw [key, IntKind.wrap_i64]
  omega
structure LawI (w0 wr : World) (B gs : Nat) (vs va : Value) (M : List Nat) (i : Nat) : Prop where
  sd : SdI wr B gs vs M
  row : OwnI wr B va M
  ap : ∀ k, va.ownBlock = some k → k ≠ gs ∧ vs.ownBlock ≠ some k
  bel : Below B w0 wr
  few : M.length ≤ i
theorem LawI.below {w0 wr w' : World} {B gs : Nat} {vs va : Value} {M : List Nat} {i : Nat} (h : LawI w0 wr B gs vs va M i) (hb : Below wr.heap.size wr w') (hB : B ≤ wr.heap.size) : LawI w0 w' B gs vs va M i :=
  ⟨h.sd.below hb, ownN_below h.row hb (fun k hk => (h.row.lt k hk).2), h.ap, h.bel.trans (hb.mono hB), h.few⟩
theorem LawI.lo {w0 wr : World} {B gs : Nat} {vs va : Value} {M : List Nat} {i : Nat} (h : LawI w0 wr B gs vs va M i) : ∀ k ∈ gs :: vs.ownBlock.toList, B ≤ k := by
  intro k hk
  simp only [List.mem_cons, Option.mem_toList] at hk
  rcases hk with hk | hk
  · rw [hk]; exact h.sd.lo
  · exact (h.sd.own.lt k hk).1
theorem SdI.feet {w : World} {B gs : Nat} {v : Value} {M : List Nat} (h : SdI w B gs v M) : ∀ k ∈ gs :: v.ownBlock.toList, B ≤ k := by
  intro k hk
  simp only [List.mem_cons, Option.mem_toList] at hk
  rcases hk with hk | hk
  · rw [hk]; exact h.lo
  · exact (h.own.lt k hk).1
/-- A call has turned the table, not the law's list. -/
theorem LawI.turn {w0 wr w' : World} {B gs : Nat} {vs vs' va : Value} {M N : List Nat} {i : Nat} (h : LawI w0 wr B gs vs va M i) (hB : B ≤ wr.heap.size) (S : SdI w' B gs vs' N) (T : Tch wr w' (gs :: vs.ownBlock.toList)) (o : vs'.ownBlock = vs.ownBlock ∨ ∀ k, vs'.ownBlock = some k → wr.heap.size ≤ k) :
    OwnI w' B va M ∧ (∀ k, va.ownBlock = some k → k ≠ gs ∧ vs'.ownBlock ≠ some k) ∧ Below B w0 w' := by
  refine ⟨ownN_keep h.row (fun k hk => T.block k (h.row.lt k hk).2 (fun hm => ?_)), fun k hk => ⟨(h.ap k hk).1, ?_⟩, h.bel.trans (T.below hB h.lo)⟩
  · simp only [List.mem_cons, Option.mem_toList] at hm
    rcases hm with hm | hm
    · exact (h.ap k hk).1 hm
    · exact (h.ap k hk).2 hm
  · rcases o with e | e
    · rw [e]; exact (h.ap k hk).2
    · intro hk'
      have h1 := e k hk'
      have h2 := (h.row.lt k hk).2
      omega
theorem ins_few (M : List Nat) (x : Nat) (i : Nat) (h : M.length ≤ i) : (putL M x).length ≤ i + 1 := by
  unfold putL
  split
  · rw [List.length_set]; omega
  · rw [ins_length]; omega

set_option maxHeartbeats 8000000 in
set_option maxRecDepth 100000 in
theorem sorts_walk (A : Option Addr) (c : Nat) (L : List Opp) (w : World) (hr : RdN w w.heap.size 2 A L.length (opC2 L)) (hf : ∀ p ∈ L, fitO p) (hlen : L.length ≤ maxLen) :
    Calls Try.prog 3 #[.slice A L.length c] w fun e w' => e = .returned (.bool true) ∧ Below w.heap.size w w' := by
  have HR := Lib.hid hr
  have HF := Lib.hid hf
  have hlen' : (L.length : Int) ≤ 9223372036854775807 := by unfold maxLen at hlen; omega
  clear hr hf hlen
  obtain ⟨N, hN⟩ : ∃ N, N = L.length := ⟨_, rfl⟩
  rw [← hN] at hlen' ⊢
  have HN := Lib.hid hN
  clear hN
  obtain ⟨B, hB⟩ : ∃ B, B = w.heap.size := ⟨_, rfl⟩
  rw [← hB]
  have HBB := Lib.hid hB
  clear hB
  go_enter Try.func3, Try.ntmps3
  go_wp2_with fail
  refine (newI_any w).mono ?_
  rintro e w1 ⟨rfl, hw1⟩
  have S1 : SdI w1 B B (.slice none 0 0) [] := by rw [hw1, HBB.out]; exact SdI.new w _ (Nat.le_refl _)
  have hb1 : Below B w w1 := by rw [hw1, HBB.out]; exact (Below.refl _ _).alloc (Nat.le_refl _) _
  rw [← HBB.out]
  have hB1 : B ≤ w1.heap.size := by have := hb1.size; rw [← HBB.out] at this; exact this
  have HP5 := Lib.hid (put_anyI B B (.slice none 0 0) [] 5 w1 S1 hB1 (by decide) (by decide))
  rw [show putL [] 5 = [5] from by decide, show hit cI [] 5 = false from by decide] at HP5
  have HL1 := Lib.hid (And.intro S1.feet hb1)
  clear hw1 S1 hb1
  go_wp2_with fail
  refine (show Calls _ _ #[_, .int .i64 5] _ _ from HP5.out).mono ?_
  rintro e w2 ⟨v2, rfl, S2, T2, o2⟩
  have hB2 : B ≤ w2.heap.size := Nat.le_trans hB1 T2.size
  have HP4 := Lib.hid (put_anyI B B v2 [5] 4 w2 S2 hB2 (by decide) (by decide))
  rw [show putL [5] 4 = [4] from by decide, show hit cI [5] 4 = true from by decide] at HP4
  have HL2 := Lib.hid (And.intro S2.feet (HL1.out.2.trans (T2.below hB1 HL1.out.1)))
  clear S2 T2 o2 HP5 HL1
  go_wp2_with fail
  refine (show Calls _ _ #[_, .int .i64 4] _ _ from HP4.out).mono ?_
  rintro e w3 ⟨v3, rfl, S3, T3, o3⟩
  have hB3 : B ≤ w3.heap.size := Nat.le_trans hB2 T3.size
  obtain ⟨A3, c3, rfl, _, _, _⟩ := own_rdN S3.own
  have HLN := Lib.hid (len_anyI B 1 c3 A3 w3 S3.box.c1)
  have HDR := Lib.hid (drop_anyI B B _ [4] 0 w3 S3 (by decide))
  rw [show dropI [4] 0 = [] from by decide, show inI [4] 0 = true from by decide] at HDR
  have HL3 := Lib.hid (And.intro S3.feet (HL2.out.2.trans (T3.below hB2 HL2.out.1)))
  clear S3 T3 o3 HP4 HL2
  go_wp2_with fail
  refine (show Calls _ _ _ _ _ from HLN.out).mono ?_
  rintro e w' ⟨rfl, rfl⟩
  go_wp2_with fail
  refine (show Calls _ _ #[_, .int .i64 0] _ _ from HDR.out).mono ?_
  rintro e w4 ⟨v4, rfl, S4, T4, o4⟩
  have hB4 : B ≤ w4.heap.size := Nat.le_trans hB3 T4.size
  have HL4 : Hid (LawI w w4 B B v4 (.slice none 0 0) [] 0) := Lib.hid ⟨S4, ⟨rfl, .inl ⟨rfl, rfl⟩⟩, by simp [Value.ownBlock], HL3.out.2.trans (T4.below hB3 HL3.out.1), by decide⟩
  clear S4 T4 o4 HDR HL3 HLN
  go_upto_region 5 with fail
  obtain ⟨w5, hw5⟩ : ∃ w5, w5 = w4.alloc (.cells #[] 3) := ⟨_, rfl⟩
  rw [← hw5]
  have b5 : Below w4.heap.size w4 w5 := by rw [hw5]; exact (Below.refl _ _).alloc (Nat.le_refl _) _
  have HL5 : Hid (LawI w w5 B B v4 (.slice (some ⟨w4.heap.size, 0, none⟩) 0 0) [] 0) := Lib.hid (by
    have h := HL4.out.below b5 hB4
    refine ⟨h.sd, ⟨rfl, .inr ⟨w4.heap.size, 0, #[], rfl, hB4, by rw [hw5]; exact heap_alloc_new w4 _, Nat.le_refl _, Nat.zero_le _, rfl, rfl⟩⟩, fun k hk => ?_, h.bel, Nat.le_refl _⟩
    have e : w4.heap.size = k := by injection hk
    subst e
    exact ⟨fun e => by have := HL4.out.sd.box.lt; omega, fun e => by have := (HL4.out.sd.own.lt _ e).2; omega⟩)
  clear hw5 b5 HL4
  generalize (Value.slice (some ⟨w4.heap.size, 0, none⟩) 0 0) = va0 at *
  clear hB1 hB2 hB3 hB4
  go_upto_block 0 with fail
  go_cut [4] (fun s4 wx => ∃ (vs : Value) (M : List Nat), Hid (LawI w wx B B vs s4 M 100))
  case first =>
    as_aux_lemma =>
      go_wp2_with fail
      go_loopg [4, 5] N (fun kx s4 s5 wr => ∃ (i : Nat) (vs : Value) (M : List Nat), i ≤ N ∧ i ≤ 80 ∧ s5 = .int .i64 i ∧ N - i ≤ kx ∧ Hid (LawI w wr B B vs s4 M i))
      case atStart => exact ⟨0, _, _, Nat.zero_le _, Nat.zero_le _, rfl, Nat.le_refl _, HL5⟩
      case round =>
        obtain ⟨i, vs, M, hi, hi80, rfl, hkx, HL⟩ := hrel
        have HX := Lib.hid hkx
        have HBw : Hid (B ≤ wr.heap.size) := Lib.hid (by have := HL.out.bel.size; have := HBB.out; omega)
        obtain ⟨Ai, ci, rfl, hnci, hcmi, _⟩ := own_rdN HL.out.row
        have HFEW := Lib.hid HL.out.few
        clear hkx hcmi
        by_cases hlt : i < N
        · by_cases h80 : i < 80
          · obtain ⟨⟨K, Y⟩, hp⟩ : ∃ p, L[i]? = some p := ⟨_, List.getElem?_eq_getElem (by have := HN.out; omega)⟩
            obtain ⟨x, hx, hxx⟩ : ∃ x : Nat, x < 256 ∧ bits .and .i64 Y 255 = (x : Int) := ⟨(Y % 256).toNat, by omega, by rw [i64_and255]; omega⟩
            have hfit := HF.out _ (List.mem_of_getElem? hp)
            obtain ⟨⟨hK1, hK2⟩, hY1, hY2⟩ := hfit
            simp only at hK1 hK2 hY1 hY2
            obtain ⟨g, off, rfl, hgb, c0, c1⟩ := (HR.out.below (by rw [← HBB.out]; exact HL.out.bel)).opp i _ hp
            clear hp
            go_upto_region 9 with fail
            generalize hw6 : wr.alloc (.cells #[.int .i64 K, .int .i64 Y] 30) = w6
            have b6 : Below wr.heap.size wr w6 := by rw [← hw6]; exact (Below.refl _ _).alloc (Nat.le_refl _) _
            have X6 : Bx2 w6 wr.heap.size (.int .i64 K) (.int .i64 Y) := by rw [← hw6]; exact Bx2.new wr _ _ _
            obtain ⟨gp, hgp⟩ : ∃ gp, gp = wr.heap.size := ⟨_, rfl⟩
            rw [← hgp] at X6 ⊢
            have HL6 := Lib.hid (HL.out.below b6 HBw.out)
            have HX6 := Lib.hid X6
            have HGP : Hid (B ≤ gp ∧ B ≤ w6.heap.size ∧ B < gp ∧ ∀ k, vs.ownBlock = some k → k < gp) := Lib.hid ⟨by rw [hgp]; exact HBw.out, Nat.le_trans HBw.out b6.size, by rw [hgp]; exact HL.out.sd.box.lt, fun k hk => by rw [hgp]; exact (HL.out.sd.own.lt k hk).2⟩
            have p0 := X6.c0
            have p1 := X6.c1
            clear hw6 b6 X6 hgp c0 c1 HL HBw
            generalize hwr : wr = wo at *
            clear hwr
            go_upto_block 2 with fail
            clear hxx
            obtain ⟨a, ha⟩ : ∃ a, a = pos cI M x := ⟨_, rfl⟩
            obtain ⟨H, hH⟩ : ∃ H, H = hit cI M x := ⟨_, rfl⟩
            have hal : a ≤ M.length := by rw [ha]; exact pos_le cI M x
            obtain ⟨m, hm⟩ : ∃ m, m = M.length := ⟨_, rfl⟩
            rw [← hm] at hal hnci ⊢
            have HM := Lib.hid hm
            have HA := Lib.hid ha
            have HH := Lib.hid hH
            obtain ⟨xq, hxq⟩ : ∃ xq, xq = x / 3 := ⟨_, rfl⟩
            have HXQ := Lib.hid hxq
            have hx3 : (x : Int) / 3 = (xq : Int) := by omega
            have HRD : Hid (RdN w6 w6.heap.size 1 Ai M.length (cellsI M)) := Lib.hid (by
              obtain ⟨A', c', e, _, _, h⟩ := own_rdN HL6.out.row
              injection e with e1 _ _
              rw [← e1] at h
              exact h)
            have HX256 := Lib.hid hx
            have hxq85 : (xq : Int) ≤ 85 := by omega
            have hm80 : (m : Int) ≤ 80 := by have := HFEW.out; omega
            have HNC := Lib.hid hnci
            clear ha hH hm hxq hx hnci hgb
            go_cut [8] from 44 to 203 (fun s8 wx => s8 = .int .i64 (a : Int) ∧ w6 = wx)
            case first =>
              as_aux_lemma =>
                go_wp2_with fail
                go_loopg [8] m (fun kx s8 wr => ∃ k : Nat, k ≤ m ∧ s8 = .int .i64 k ∧ m - k ≤ kx ∧ w6 = wr ∧ Hid (∀ j z, j < k → M[j]? = some z → cI z x < 0))
                case atStart => exact ⟨0, Nat.zero_le _, rfl, Nat.le_refl _, rfl, Lib.hid (fun j z h => absurd h (Nat.not_lt_zero _))⟩
                case round =>
                  obtain ⟨k, hk, rfl, hkk, rfl, HI⟩ := hrel
                  have HKK := Lib.hid hkk
                  clear hkk
                  by_cases hkm : k < m
                  · obtain ⟨z, hz⟩ : ∃ z, M[k]? = some z := ⟨_, List.getElem?_eq_getElem (by have := HM.out; omega)⟩
                    have HZ := Lib.hid hz
                    obtain ⟨g', off', rfl, _, d0⟩ := HRD.out.int k z hz
                    obtain ⟨zq, hzq⟩ : ∃ zq, zq = z / 3 := ⟨_, rfl⟩
                    have HZQ := Lib.hid hzq
                    have hz3 : (z : Int) / 3 = (zq : Int) := by omega
                    have hzq85 : (zq : Int) ≤ 85 := by have := HL6.out.sd.sm z (List.mem_of_getElem? hz); omega
                    clear hz hzq
                    by_cases hl : zq < xq
                    · have hl' : (zq : Int) < (xq : Int) := by omega
                      go_wp2
                      go_roundg (m - (k + 1))
                      case measure => have := HKK.out; omega
                      case rel =>
                        refine ⟨k + 1, by omega, by go_num, Nat.le_refl _, rfl, Lib.hid (fun j z' hj hz' => ?_)⟩
                        rcases Nat.lt_or_eq_of_le (Nat.le_of_lt_succ hj) with h | h
                        · exact HI.out j z' h hz'
                        · subst h
                          rw [HZ.out] at hz'
                          cases hz'
                          rw [cI_lt, ← HZQ.out, ← HXQ.out]
                          exact hl
                    · have hl' : ¬ (zq : Int) < (xq : Int) := by omega
                      go_wp2
                      go_meet
                      refine ⟨?_, rfl⟩
                      rw [HA.out, pos_eq cI M x k (by have := HM.out; omega) HI.out (fun z' hz' => by
                        rw [HZ.out] at hz'
                        cases hz'
                        rw [cI_lt, ← HZQ.out, ← HXQ.out]
                        exact hl)]
                  · obtain rfl : k = m := by omega
                    have hd : decide ((k : Int) < (k : Int)) = false := by simp
                    go_wp2
                    go_meet
                    refine ⟨?_, rfl⟩
                    rw [HA.out, pos_eq cI M x k (by have := HM.out; omega) HI.out (fun z' hz' => by have := (List.getElem?_eq_some_iff.1 hz').1; have := HM.out; omega)]
            case rest =>
              as_aux_lemma =>
                obtain ⟨rfl, rfl⟩ := hcut
                go_upto_region 13 with fail
                go_cut [9] from 44 to 203 (fun s9 wx => s9 = .bool H ∧ w6 = wx)
                case first =>
                  as_aux_lemma =>
                    by_cases ham : a < m
                    · obtain ⟨z, hz⟩ : ∃ z, M[a]? = some z := ⟨_, List.getElem?_eq_getElem (by have := HM.out; omega)⟩
                      obtain ⟨g', off', rfl, _, d0⟩ := HRD.out.int a z hz
                      have hHz : H = decide (cI z x = 0) := by
                        rw [HH.out]
                        unfold hit
                        rw [← HA.out, hz]
                      obtain ⟨zq, hzq⟩ : ∃ zq, zq = z / 3 := ⟨_, rfl⟩
                      have hz3 : (z : Int) / 3 = (zq : Int) := by omega
                      have hzq85 : (zq : Int) ≤ 85 := by have := HL6.out.sd.sm z (List.mem_of_getElem? hz); omega
                      by_cases hq : zq = xq
                      · have hHt : H = true := by rw [hHz, decide_eq_true_eq, cI_zero, ← hzq, ← HXQ.out]; exact hq
                        have HHT := Lib.hid hHt
                        subst hq
                        clear hz hHz hzq hHt
                        go_wp2
                        go_meet
                        exact ⟨by rw [HHT.out], rfl⟩
                      · have hHf : H = false := by rw [hHz, decide_eq_false_iff_not, cI_zero, ← hzq, ← HXQ.out]; exact hq
                        have HHF := Lib.hid hHf
                        have hq2 : ((zq : Int) == (xq : Int)) = false := by simp; omega
                        clear hz hHz hzq hHf
                        go_wp2
                        go_meet
                        exact ⟨by rw [HHF.out], rfl⟩
                    · have hHf : H = false := by
                        rw [HH.out]
                        unfold hit
                        rw [← HA.out, List.getElem?_eq_none (by have := HM.out; omega)]
                      have hd : decide ((a : Int) < (m : Int)) = false := by simp; omega
                      have HHF := Lib.hid hHf
                      clear hHf
                      go_wp2
                      go_meet
                      exact ⟨by rw [HHF.out], rfl⟩
                case rest =>
                  as_aux_lemma =>
                    obtain ⟨rfl, rfl⟩ := hcut
                    have hB6 := HGP.out.2.1
                    have hM6 : (M.length : Int) ≤ 1000000 := by have := HM.out; omega
                    have HPUT := Lib.hid (put_anyI B B vs M x w6 HL6.out.sd hB6 hM6 HX256.out)
                    rw [← HH.out] at HPUT
                    have HSEEK := Lib.hid (seek_anyI B B vs M x w6 HL6.out.sd hM6 HX256.out)
                    rw [← HA.out] at HSEEK
                    have HAT := Lib.hid (at_anyI B B Y vs M w6 HL6.out.sd hM6)
                    have HDROP := Lib.hid (drop_anyI B B vs M Y w6 HL6.out.sd hM6)
                    have HB6 := Lib.hid hB6
                    clear hB6 hM6 hx3
                    go_upto_block 4 with fail
                    go_cut [4] from 44 to 203 (fun s4 wx => ∃ (vs' : Value) (M' : List Nat), Hid (LawI w wx B B vs' s4 M' (i + 1)))
                    case first =>
                      as_aux_lemma =>
                        have hHEND : Hid (∀ (vs' : Value) (va' : Value) (M' : List Nat) (W : World), SdI W B B vs' M' → OwnI W B va' M' → (∀ k, va'.ownBlock = some k → k ≠ B ∧ vs'.ownBlock ≠ some k) → Below B w W → M'.length ≤ i + 1 → Hid (LawI w W B B vs' va' M' (i + 1))) := Lib.hid (fun vs' va' M' W h1 h2 h3 h4 h5 => Lib.hid ⟨h1, h2, h3, h4, h5⟩)
                        by_cases hK0 : K = 0
                        · subst hK0
                          as_aux_lemma =>
                            clear HSEEK HAT HDROP
                            go_wp2_with fail
                            refine (show Calls _ _ _ _ _ from HPUT.out).mono ?_
                            rintro e w7 ⟨v7, rfl, S7, T7, o7⟩
                            obtain ⟨k1, k2, k3⟩ := HL6.out.turn HB6.out S7 T7 o7
                            have hB7 : B ≤ w7.heap.size := Nat.le_trans HB6.out T7.size
                            have hfew := ins_few M x i HFEW.out
                            clear HPUT T7 o7
                            cases H with
                            | true =>
                              as_aux_lemma =>
                                have e1 : putL M x = M.set a x := by unfold putL; rw [← HH.out, HA.out]; rfl
                                rw [e1] at S7 hfew
                                have ham : a < m := by
                                  have h := HH.out.symm
                                  unfold hit at h
                                  rw [← HA.out] at h
                                  split at h
                                  · rename_i y hy; have := (List.getElem?_eq_some_iff.1 hy).1; have := HM.out; omega
                                  · cases h
                                have k1' : w7.ownsRow B 3 1 (.slice Ai m ci) m (cellsI M) := by rw [HM.out]; exact k1
                                obtain ⟨g4, cap4, e4, hbg4, hg4, _, _⟩ := own_open k1' (by omega)
                                injection e4 with e41 e42 e43
                                subst e41; subst e43
                                have hcell := k1'.cellAt a (by omega)
                                have hcs : (cellsI M)[a]? = some (.int .i64 ((M.getD a 0 : Nat) : Int)) := by simp [cellsI, List.getD, show a < M.length by rw [← HM.out]; exact ham]
                                rw [hcs] at hcell
                                have hcold := k1'.frozenAt a
                                obtain ⟨st1, st2⟩ := k1'.stored a (.int .i64 (x : Int))
                                have hne4 := k2 g4 rfl
                                have HE := Lib.hid (hHEND.out v7 (.slice (some ⟨g4, 0, none⟩) m ci) (M.set a x) (w7.setCell ⟨g4, a, none⟩ (.int .i64 (x : Int)))
                                  (S7.keep (st2.block B S7.box.lt (fun e => hne4.1 (by injection e with e; exact e.symm))) (fun k hk => st2.block k (S7.own.lt k hk).2 (fun e => hne4.2 (by rw [hk]; exact e))))
                                  (by unfold OwnI; rw [List.length_set, ← HM.out, show cellsI (M.set a x) = (cellsI M).set a (.int .i64 (x : Int)) by simp [cellsI, List.map_set]]; exact st1)
                                  (fun k hk => by have e5 : g4 = k := Option.some.inj hk; rw [← e5]; exact hne4) (k3.trans ((Below.refl _ _).setCell hbg4 _)) hfew)
                                clear e42 S7 k1 k2 k3 k1' hcs st1 st2 hne4 hfew hbg4 hg4 hB7 hHEND
                                generalize M.getD a 0 = z0 at *
                                go_wp2
                                go_meet
                                exact ⟨v7, M.set a x, HE.out⟩
                            | false =>
                              as_aux_lemma =>
                                have e1 : putL M x = M.take a ++ x :: M.drop a := by unfold putL; rw [← HH.out, HA.out]; rfl
                                rw [e1] at S7 hfew
                                obtain ⟨A', c', e', hnc', _, hrd⟩ := own_rdN k1
                                injection e' with e1' e2' e3'
                                rw [← e1'] at hrd
                                rw [← e3'] at hnc'
                                obtain ⟨v10, w10, v12, w12, v13, w13, v14, w14, r10, r12, r13, _, o13, _, b10, b13, _, b12⟩ := row3I w7 Ai ci a a M x hrd (by have := HM.out; omega) (by have := HM.out; omega) hnc' (by have := HM.out; omega)
                                obtain ⟨ti, hti, hts, _⟩ := infoEI
                                have hsl := fun wx => run_slice1_l (P := Try.prog) wx 28 3 ti Try.underlying28 hti hts Ai m ci a (by omega) .i64 (a : Int) rfl
                                have hsh := fun wx => run_slice1_h (P := Try.prog) wx 28 3 ti Try.underlying28 hti hts Ai m ci a (by have := HM.out; omega) .i64 (a : Int) rfl
                                rw [← HM.out] at r13
                                generalize (if ci = a then Ai else Ai.map (·.add a)) = A13 at hsl r13
                                have HE := Lib.hid (hHEND.out v7 v13 _ w13 (S7.below b13) (ownN_base o13 hB7) (fun k hk => by
                                  have h1 := (o13.lt k hk).1
                                  have h2 := S7.box.lt
                                  exact ⟨by omega, fun e => by have := (S7.own.lt k e).2; omega⟩) (k3.trans (b13.mono hB7)) hfew)
                                have HR10 := Lib.hid r10
                                have HR12 := Lib.hid r12
                                have HR13 := Lib.hid r13
                                clear S7 k1 k2 k3 e1' e2' e3' hnc' hrd r10 r12 r13 o13 b10 b13 b12 hti hts hfew hB7 hHEND
                                go_upto_region 21 with (at_builtin; refine wpList_appz rfl (.tmp 105) (.tmp 108) 28 28 rfl rfl rfl (HR10.out _) ?_)
                                go_upto_region 22 with (at_builtin; refine wpList_appz rfl (.tmp 110) (.tmp 112) 28 28 rfl rfl rfl (HR12.out _) ?_)
                                go_wp2_with (at_builtin; refine wpList_appz rfl (.tmp 114) (.tmp 117) 28 28 rfl rfl rfl (HR13.out _) ?_)
                                go_meet
                                exact ⟨v7, _, HE.out⟩
                        · have hK0' : (K == 0) = false := by simpa using hK0
                          clear HPUT
                          by_cases hK1' : K = 1
                          · subst hK1'
                            as_aux_lemma =>
                              clear HAT HDROP
                              go_wp2_with fail
                              refine (show Calls _ _ _ _ _ from HSEEK.out).mono ?_
                              rintro e w7 ⟨rfl, hb7⟩
                              have HE := Lib.hid (HL6.out.below hb7 HB6.out)
                              clear hb7
                              go_wp2
                              go_meet
                              exact ⟨vs, M, hHEND.out _ _ _ _ HE.out.sd (by have := HE.out.row; rw [HM.out]; exact this) (by have := HE.out.ap; rw [HM.out]; exact this) HE.out.bel (by have := HE.out.few; omega)⟩
                          · have hK1'' : (K == 1) = false := by simpa using hK1'
                            clear HSEEK
                            by_cases hK2' : K = 2
                            · subst hK2'
                              clear HDROP
                              by_cases hY0 : Y < 0
                              · have hat : atI M Y = (0, false) := by unfold atI; rw [if_pos hY0]
                                as_aux_lemma =>
                                  rw [hat] at HAT
                                  have hd : ¬ 0 ≤ Y := by omega
                                  clear hat
                                  go_wp2_with fail
                                  refine (show Calls _ _ _ _ _ from HAT.out).mono ?_
                                  rintro e w7 ⟨rfl, rfl⟩
                                  go_wp2
                                  go_meet
                                  exact ⟨vs, M, hHEND.out _ _ _ _ HL6.out.sd (by have := HL6.out.row; rw [HM.out]; exact this) (by have := HL6.out.ap; rw [HM.out]; exact this) HL6.out.bel (by have := HL6.out.few; omega)⟩
                              · obtain ⟨k, rfl⟩ : ∃ k : Nat, Y = (k : Int) := ⟨Y.toNat, by omega⟩
                                as_aux_lemma =>
                                  have hd0 : 0 ≤ (k : Int) := by omega
                                  by_cases hkm : k < m
                                  · obtain ⟨z, hz⟩ : ∃ z, M[k]? = some z := ⟨_, List.getElem?_eq_getElem (by have := HM.out; omega)⟩
                                    have hat : atI M (k : Int) = (z, true) := by unfold atI; rw [if_neg hY0, Int.toNat_natCast, hz]
                                    rw [hat] at HAT
                                    obtain ⟨g', off', rfl, _, d0⟩ := HRD.out.int k z hz
                                    have hkm' : (k : Int) < (m : Int) := by omega
                                    clear hat hz hY0
                                    go_wp2_with fail
                                    refine (show Calls _ _ _ _ _ from HAT.out).mono ?_
                                    rintro e w7 ⟨rfl, rfl⟩
                                    go_wp2
                                    go_meet
                                    exact ⟨vs, M, hHEND.out _ _ _ _ HL6.out.sd (by have := HL6.out.row; rw [HM.out]; exact this) (by have := HL6.out.ap; rw [HM.out]; exact this) HL6.out.bel (by have := HL6.out.few; omega)⟩
                                  · have hat : atI M (k : Int) = (0, false) := by unfold atI; rw [if_neg hY0, Int.toNat_natCast, List.getElem?_eq_none (by have := HM.out; omega)]
                                    rw [hat] at HAT
                                    have hkm' : ¬ (k : Int) < (m : Int) := by omega
                                    clear hat hY0
                                    go_wp2_with fail
                                    refine (show Calls _ _ _ _ _ from HAT.out).mono ?_
                                    rintro e w7 ⟨rfl, rfl⟩
                                    go_wp2
                                    go_meet
                                    exact ⟨vs, M, hHEND.out _ _ _ _ HL6.out.sd (by have := HL6.out.row; rw [HM.out]; exact this) (by have := HL6.out.ap; rw [HM.out]; exact this) HL6.out.bel (by have := HL6.out.few; omega)⟩
                            · have hK2'' : (K == 2) = false := by simpa using hK2'
                              clear HAT
                              by_cases hK3' : K = 3
                              · subst hK3'
                                by_cases hin : 0 ≤ Y ∧ Y < (m : Int)
                                · obtain ⟨k, rfl⟩ : ∃ k : Nat, Y = (k : Int) := ⟨Y.toNat, by omega⟩
                                  as_aux_lemma =>
                                    have hkm : k < m := by omega
                                    have hii : inI M (k : Int) = true := by unfold inI; rw [decide_eq_true (by omega), decide_eq_true (by have := HM.out; omega)]; rfl
                                    have hdd : dropI M (k : Int) = M.eraseIdx k := by unfold dropI; rw [hii, Int.toNat_natCast]; rfl
                                    rw [hii, hdd] at HDROP
                                    have hkm' : (k : Int) < (m : Int) := by omega
                                    have hd0 : 0 ≤ (k : Int) := by omega
                                    clear hin hii hdd
                                    go_wp2_with fail
                                    refine (show Calls _ _ _ _ _ from HDROP.out).mono ?_
                                    rintro e w7 ⟨v7, rfl, S7, T7, o7⟩
                                    obtain ⟨k1, k2, k3⟩ := HL6.out.turn HB6.out S7 T7 o7
                                    have hB7 : B ≤ w7.heap.size := Nat.le_trans HB6.out T7.size
                                    have X7 := HX6.out.keep (T7.block gp HX6.out.lt (fun hm => by
                                      simp only [List.mem_cons, Option.mem_toList] at hm
                                      rcases hm with hm | hm
                                      · have := HGP.out.2.2.1; omega
                                      · have := HGP.out.2.2.2 gp hm; omega))
                                    have q1 := X7.c1
                                    clear T7 o7 HDROP p0 p1
                                    obtain ⟨A', c', e', hnc', _, hrd⟩ := own_rdN k1
                                    injection e' with e1' e2' e3'
                                    rw [← e1'] at hrd
                                    rw [← e3'] at hnc'
                                    obtain ⟨k1n, hk1n⟩ : ∃ k1n, k1n = k + 1 := ⟨_, rfl⟩
                                    obtain ⟨v10, w10, v12, w12, v13, w13, v14, w14, r10, _, _, r14, _, o14, b10, _, b14, _⟩ := row3I w7.drew Ai ci k k1n M 0 (show RdN w7.drew w7.heap.size 1 Ai M.length (cellsI M) from hrd.drew) (by have := HM.out; omega) (by have := HM.out; omega) hnc' (by have := HM.out; omega)
                                    have b10 : Below w7.heap.size w7 w10 := (Below.refl w7.heap.size w7).drew.trans b10
                                    have b14 : Below w7.heap.size w7 w14 := (Below.refl w7.heap.size w7).drew.trans b14
                                    have o14 : OwnI w14 w7.heap.size v14 (M.take k ++ M.drop k1n) := o14
                                    have her : M.take k ++ M.drop k1n = M.eraseIdx k := by rw [hk1n, List.eraseIdx_eq_take_drop_succ]
                                    rw [her] at o14
                                    obtain ⟨ti, hti, hts, _⟩ := infoEI
                                    have hsl := fun wx => run_slice1_l (P := Try.prog) wx 28 3 ti Try.underlying28 hti hts Ai m ci k1n (by omega) .i64 (k1n : Int) rfl
                                    have hsh := fun wx => run_slice1_h (P := Try.prog) wx 28 3 ti Try.underlying28 hti hts Ai m ci k (by have := HM.out; omega) .i64 (k : Int) rfl
                                    rw [← HM.out] at r14
                                    generalize (if ci = k1n then Ai else Ai.map (·.add k1n)) = A13 at hsl r14
                                    have hgl : gp < w7.heap.size := X7.lt
                                    have HE := Lib.hid (hHEND.out v7 v14 _ w14 (S7.below b14) (ownN_base o14 hB7) (fun k hk => by
                                      have h1 := (o14.lt k hk).1
                                      have h2 := S7.box.lt
                                      exact ⟨by omega, fun e => by have := (S7.own.lt k e).2; omega⟩) (k3.trans (b14.mono hB7)) (by rw [List.length_eraseIdx_of_lt (by have := HM.out; omega)]; have := HFEW.out; omega))
                                    have HR10 : Hid (∀ ty, (Builtin.append_ #[28, 28] ty #[.slice (some ⟨w7.heap.size, 0, none⟩) 0 0, .slice Ai k ci]).run Try.prog (w7.drew.alloc (.cells #[] 3)) = .ok v10 w10) := Lib.hid r10
                                    have HR14 := Lib.hid r14
                                    have HC0 : Hid ((w7.drew.alloc (.cells #[] 3)).cell? ⟨gp, 1, none⟩ = some (.int .i64 (k : Int))) := Lib.hid ((((Below.refl w7.heap.size w7).drew.alloc (Nat.le_refl _) (.cells #[] 3)).cell (p := ⟨gp, 1, none⟩) hgl).trans q1)
                                    have HC10 : Hid (w10.cell? ⟨gp, 1, none⟩ = some (.int .i64 (k : Int))) := Lib.hid ((b10.cell (p := ⟨gp, 1, none⟩) hgl).trans q1)
                                    have HC14 : Hid (w14.cell? ⟨gp, 1, none⟩ = some (.int .i64 (k : Int))) := Lib.hid ((b14.cell (p := ⟨gp, 1, none⟩) hgl).trans q1)
                                    have hkk : (k : Int) + 1 = (k1n : Int) := by omega
                                    have hwk : IntKind.i64.wrap (k1n : Int) = (k1n : Int) := IntWalk.i64_in _ (by omega)
                                    have hkn : (k1n : Int) ≤ 100 := by omega
                                    have HQ1 := Lib.hid q1
                                    clear S7 X7 k1 k2 k3 e1' e2' e3' hnc' hrd r10 r14 o14 b10 b14 hti hts hB7 hHEND her hk1n q1
                                    have q1 := HQ1.out
                                    go_upto_region 36 with fail
                                    clear q1
                                    refine wp_region_noPanic ?_
                                    refine wp_region_held_drew (S := (fun wx => wx.cell? ⟨gp, 1, none⟩ = some (.int .i64 (k : Int)))) (by kernel_rfl) (HQ1.out) (fun hHeld => ?_)
                                    refine wpAnyH_take (i := 1) (v := ?_) (by simp only [List.getElem?_toArray, List.getElem?_cons_succ, List.getElem?_cons_zero]; rfl) (by kernel_rfl) (by kernel_rfl) (by kernel_rfl) (fun _ _ _ h => h) (Or.inl ⟨by rfl, ?_⟩) (by assumption) ?_
                                    rotate_left
                                    · (intro w hSw; (try dsimp only at hSw); go_simp; (try with_reducible rfl))
                                    (try simp only [Act.put, List.setIfInBounds_toArray, List.set_cons_zero, List.set_cons_succ])
                                    refine wpAnyH_take (i := 2) (v := ?_) (by simp only [List.getElem?_toArray, List.getElem?_cons_succ, List.getElem?_cons_zero]; rfl) (by kernel_rfl) (by kernel_rfl) (by kernel_rfl) (fun _ _ _ h => h) (Or.inl ⟨by rfl, ?_⟩) (by assumption) ?_
                                    rotate_left
                                    · (intro w hSw; (try dsimp only at hSw); go_simp; (try with_reducible rfl))
                                    (try simp only [Act.put, List.setIfInBounds_toArray, List.set_cons_zero, List.set_cons_succ])
                                    refine wpAnyH_take (i := 3) (v := ?_) (by simp only [List.getElem?_toArray, List.getElem?_cons_succ, List.getElem?_cons_zero]; rfl) (by kernel_rfl) (by kernel_rfl) (by kernel_rfl) (fun _ _ _ h => h) (Or.inl ⟨by rfl, ?_⟩) (by assumption) ?_
                                    rotate_left
                                    · (intro w hSw; (try dsimp only at hSw); go_simp; (try with_reducible rfl))
                                    (try simp only [Act.put, List.setIfInBounds_toArray, List.set_cons_zero, List.set_cons_succ])
                                    refine wpAnyH_take (i := 4) (v := ?_) (by simp only [List.getElem?_toArray, List.getElem?_cons_succ, List.getElem?_cons_zero]; rfl) (by kernel_rfl) (by kernel_rfl) (by kernel_rfl) (fun _ _ _ h => h) (Or.inl ⟨by rfl, ?_⟩) (by assumption) ?_
                                    rotate_left
                                    · (intro w hSw; (try dsimp only at hSw); go_simp; (try with_reducible rfl))
                                    (try simp only [Act.put, List.setIfInBounds_toArray, List.set_cons_zero, List.set_cons_succ])
                                    refine wpAnyH_take (i := 6) (v := ?_) (by simp only [List.getElem?_toArray, List.getElem?_cons_succ, List.getElem?_cons_zero]; rfl) (by kernel_rfl) (by kernel_rfl) (by kernel_rfl) (fun _ _ _ h => h) (Or.inl ⟨by rfl, ?_⟩) (by assumption) ?_
                                    rotate_left
                                    · (intro w hSw; (try dsimp only at hSw); go_simp; (try with_reducible rfl))
                                    (try simp only [Act.put, List.setIfInBounds_toArray, List.set_cons_zero, List.set_cons_succ])
                                    refine wpAnyH_take (i := 7) (v := ?_) (by simp only [List.getElem?_toArray, List.getElem?_cons_succ, List.getElem?_cons_zero]; rfl) (by kernel_rfl) (by kernel_rfl) (by kernel_rfl) (fun _ _ _ h => h) (Or.inl ⟨by rfl, ?_⟩) (by assumption) ?_
                                    rotate_left
                                    · (intro w hSw; (try dsimp only at hSw); go_simp; (try with_reducible rfl))
                                    (try simp only [Act.put, List.setIfInBounds_toArray, List.set_cons_zero, List.set_cons_succ])
                                    refine wpAnyH_take (i := 8) (v := ?_) (by simp only [List.getElem?_toArray, List.getElem?_cons_succ, List.getElem?_cons_zero]; rfl) (by kernel_rfl) (by kernel_rfl) (by kernel_rfl) (fun _ _ _ h => h) (Or.inl ⟨by rfl, ?_⟩) (by assumption) ?_
                                    rotate_left
                                    · (intro w hSw; (try dsimp only at hSw); go_simp; (try with_reducible rfl))
                                    (try simp only [Act.put, List.setIfInBounds_toArray, List.set_cons_zero, List.set_cons_succ])
                                    refine wpAnyH_take (i := 9) (v := ?_) (by simp only [List.getElem?_toArray, List.getElem?_cons_succ, List.getElem?_cons_zero]; rfl) (by kernel_rfl) (by kernel_rfl) (by kernel_rfl) (fun _ _ _ h => h) (Or.inl ⟨by rfl, ?_⟩) (by assumption) ?_
                                    rotate_left
                                    · (intro w hSw; (try dsimp only at hSw); go_simp; (try with_reducible rfl))
                                    (try simp only [Act.put, List.setIfInBounds_toArray, List.set_cons_zero, List.set_cons_succ])
                                    refine wpAnyH_take (i := 10) (v := ?_) (by simp only [List.getElem?_toArray, List.getElem?_cons_succ, List.getElem?_cons_zero]; rfl) (by kernel_rfl) (by kernel_rfl) (by kernel_rfl) (fun _ _ _ h => h) (Or.inl ⟨by rfl, ?_⟩) (by assumption) ?_
                                    rotate_left
                                    · (intro w hSw; (try dsimp only at hSw); go_simp; (try with_reducible rfl))
                                    (try simp only [Act.put, List.setIfInBounds_toArray, List.set_cons_zero, List.set_cons_succ])
                                    refine wpAnyH_ready (rs := [0]) (by kernel_rfl) (by simp) ?_
                                    refine AllReadyH.cons (by simp only [List.getElem?_toArray, List.getElem?_cons_succ, List.getElem?_cons_zero]; rfl) (fun K hK => ?_) AllReadyH.nil
                                    go_simp
                                    refine hK.out _ _ ?_ (fun hHeld => ?_)
                                    · exact HC0.out
                                    clear hK K
                                    (try simp only [Act.put, List.setIfInBounds_toArray, List.set_cons_zero, List.set_cons_succ])
                                    refine wpAnyH_ready (rs := [5]) (by kernel_rfl) (by simp) ?_
                                    refine AllReadyH.cons (by simp only [List.getElem?_toArray, List.getElem?_cons_succ, List.getElem?_cons_zero]; rfl) (fun K hK => ?_) AllReadyH.nil
                                    refine operwp_append_run rfl (.tmp 187) (.tmp 191) 28 rfl rfl rfl (HR10.out _) ?_
                                    refine hK.out _ _ ?_ (fun hHeld => ?_)
                                    · exact HC10.out
                                    clear hK K
                                    (try simp only [Act.put, List.setIfInBounds_toArray, List.set_cons_zero, List.set_cons_succ])
                                    refine wpAnyH_ready (rs := [11]) (by kernel_rfl) (by simp) ?_
                                    refine AllReadyH.cons (by simp only [List.getElem?_toArray, List.getElem?_cons_succ, List.getElem?_cons_zero]; rfl) (fun K hK => ?_) AllReadyH.nil
                                    refine operwp_append_run rfl (.tmp 192) (.tmp 197) 28 rfl rfl rfl (HR14.out _) ?_
                                    refine hK.out _ _ ?_ (fun hHeld => ?_)
                                    · exact HC14.out
                                    clear hK K
                                    (try simp only [Act.put, List.setIfInBounds_toArray, List.set_cons_zero, List.set_cons_succ])
                                    refine wpAnyH_take (i := 12) (v := ?_) (by simp only [List.getElem?_toArray, List.getElem?_cons_succ, List.getElem?_cons_zero]; rfl) (by kernel_rfl) (by kernel_rfl) (by kernel_rfl) (fun _ _ _ h => h) (Or.inl ⟨by rfl, ?_⟩) (by assumption) ?_
                                    rotate_left
                                    · (intro w hSw; (try dsimp only at hSw); go_simp; (try with_reducible rfl))
                                    (try simp only [Act.put, List.setIfInBounds_toArray, List.set_cons_zero, List.set_cons_succ])
                                    refine wpAnyH_done (by kernel_rfl) ?_ _
                                    refine NoPanic.normal ?_
                                    clear hHeld hwk hkk
                                    go_wp2
                                    go_meet
                                    exact ⟨v7, _, HE.out⟩
                                · have hii : inI M Y = false := by
                                    unfold inI
                                    rcases Decidable.not_and_iff_or_not.1 hin with h | h
                                    · rw [decide_eq_false h, Bool.false_and]
                                    · rw [decide_eq_false (show ¬ Y < (M.length : Int) by have := HM.out; omega), Bool.and_false]
                                  have hdd : dropI M Y = M := by unfold dropI; rw [hii]; rfl
                                  rw [hii, hdd] at HDROP
                                  clear hii hdd
                                  by_cases hY0 : 0 ≤ Y
                                  · have hkm' : ¬ Y < (m : Int) := fun h => hin ⟨hY0, h⟩
                                    clear hin
                                    go_wp2_with fail
                                    refine (show Calls _ _ _ _ _ from HDROP.out).mono ?_
                                    rintro e w7 ⟨v7, rfl, S7, T7, o7⟩
                                    obtain ⟨k1, k2, k3⟩ := HL6.out.turn HB6.out S7 T7 o7
                                    have HE := Lib.hid (hHEND.out _ _ _ _ S7 k1 k2 k3 (by have := HFEW.out; omega))
                                    clear S7 T7 o7 k1 k2 k3 hHEND
                                    rw [← HM.out] at HE
                                    go_wp2
                                    go_meet
                                    exact ⟨v7, M, HE.out⟩
                                  · clear hin
                                    as_aux_lemma =>
                                      go_wp2_with fail
                                      refine (show Calls _ _ _ _ _ from HDROP.out).mono ?_
                                      rintro e w7 ⟨v7, rfl, S7, T7, o7⟩
                                      obtain ⟨k1, k2, k3⟩ := HL6.out.turn HB6.out S7 T7 o7
                                      have HE := Lib.hid (hHEND.out _ _ _ _ S7 k1 k2 k3 (by have := HFEW.out; omega))
                                      clear S7 T7 o7 k1 k2 k3 hHEND
                                      rw [← HM.out] at HE
                                      go_wp2
                                      go_meet
                                      exact ⟨v7, M, HE.out⟩
                              · have hK3'' : (K == 3) = false := by simpa using hK3'
                                clear HDROP
                                go_wp2
                                go_meet
                                exact ⟨vs, M, hHEND.out _ _ _ _ HL6.out.sd (by have := HL6.out.row; rw [HM.out]; exact this) (by have := HL6.out.ap; rw [HM.out]; exact this) HL6.out.bel (by have := HL6.out.few; omega)⟩
                    case rest =>
                      as_aux_lemma =>
                        obtain ⟨vs', M', HL'⟩ := hcut
                        obtain ⟨A', c', rfl, _, _, _⟩ := own_rdN HL'.out.row
                        obtain ⟨A'', c'', rfl, _, _, _⟩ := own_rdN HL'.out.sd.own
                        have HLN := Lib.hid (len_anyI B M'.length c'' A'' wc HL'.out.sd.box.c1)
                        obtain ⟨m', hm'⟩ : ∃ m', m' = M'.length := ⟨_, rfl⟩
                        have HL9 := HL'
                        have HM' := Lib.hid hm'
                        rw [← hm'] at HLN ⊢
                        clear hm' p0 p1
                        go_wp2_with fail
                        refine (show Calls _ _ _ _ _ from HLN.out).mono ?_
                        rintro e w' ⟨rfl, rfl⟩
                        go_wp2
                        go_roundg (N - (i + 1))
                        case measure => have := HX.out; omega
                        case rel => exact ⟨i + 1, _, M', by omega, by omega, by go_num, Nat.le_refl _, by rw [HM'.out]; exact HL9⟩
          · obtain rfl : i = 80 := by omega
            have hd : decide ((80 : Int) < 80) = false := by simp
            go_wp2
            go_meet
            exact ⟨vs, M, Lib.hid ⟨HL.out.sd, HL.out.row, HL.out.ap, HL.out.bel, by have := HL.out.few; omega⟩⟩
        · obtain rfl : i = N := by omega
          have hd : decide ((i : Int) < (i : Int)) = false := by simp
          go_wp2
          go_meet
          exact ⟨vs, M, Lib.hid ⟨HL.out.sd, HL.out.row, HL.out.ap, HL.out.bel, by have := HL.out.few; omega⟩⟩
  case rest =>
    as_aux_lemma =>
      obtain ⟨vs, M, HL⟩ := hcut
      obtain ⟨Ai, ci, rfl, _, _, hrd⟩ := own_rdN HL.out.row
      have HRD := Lib.hid hrd
      have hfew := HL.out.few
      have HAT := Lib.hid (fun (j : Nat) => at_anyI B B (j : Int) vs M wc HL.out.sd (by omega))
      obtain ⟨m, hm⟩ : ∃ m, m = M.length := ⟨_, rfl⟩
      rw [← hm] at hfew ⊢
      have HM := Lib.hid hm
      clear hm hrd
      go_upto_region 40 with fail
      go_loopg [206] m (fun kx s206 wr => ∃ j : Nat, j ≤ m ∧ s206 = .int .i64 j ∧ m - j ≤ kx ∧ wc = wr)
      case atStart => exact ⟨0, Nat.zero_le _, rfl, Nat.le_refl _, rfl⟩
      case round =>
        obtain ⟨j, hj, rfl, hkx, rfl⟩ := hrel
        have HX := Lib.hid hkx
        clear hkx
        by_cases hjm : j < m
        · obtain ⟨z, hz⟩ : ∃ z, M[j]? = some z := ⟨_, List.getElem?_eq_getElem (by have := HM.out; omega)⟩
          obtain ⟨g, off, rfl, _, d0⟩ := HRD.out.int j z hz
          have hat : atI M (j : Int) = (z, true) := by unfold atI; rw [if_neg (by omega), Int.toNat_natCast, hz]
          have HAJ := Lib.hid (HAT.out j)
          rw [hat] at HAJ
          clear hat hz
          go_upto_region 42 with fail
          go_wp2_with fail
          refine (show Calls _ _ _ _ _ from HAJ.out).mono ?_
          rintro e w' ⟨rfl, rfl⟩
          go_wp2
          go_roundg (m - (j + 1))
          case measure => have := HX.out; omega
          case rel => exact ⟨j + 1, by omega, by go_num, Nat.le_refl _, rfl⟩
        · clear HAT
          go_wp2_with (first
            | (go_at_call 14; refine (at_nilI _).mono ?_; rintro e w' ⟨rfl, rfl⟩)
            | (go_at_call 10; refine (put_nilI _ _).mono ?_; rintro e w' ⟨rfl, rfl⟩)
            | (go_at_call 13; refine (seek_nilI _ _).mono ?_; rintro e w' ⟨rfl, rfl⟩)
            | (go_at_call 12; refine (drop_nilI _).mono ?_; rintro e w' ⟨rfl, rfl⟩)
            | (go_at_call 11; refine (len_nilI _).mono ?_; rintro e w' ⟨rfl, rfl⟩)
            | (go_at_call 8; refine (newI_nil _).mono ?_; rintro e w' ⟨rfl, rfl⟩))
          go_ret
          exact ⟨rfl, HL.out.bel⟩
end Go.Proofs.Ytgdkcnpgnmmliab
