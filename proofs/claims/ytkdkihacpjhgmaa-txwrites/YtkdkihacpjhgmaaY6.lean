/- Walks: the reader's parts. -/
import Derived.Test.YtkdkihacpjhgmaaY5
namespace Go.Proofs.Ytkdkihacpjhgmaa
set_option linter.unusedSimpArgs false
set_option linter.unusedVariables false
open Go.RowKit

theorem infoS_parts {i : Option TypeInfo} (h : i.map (fun i => (i.zero, i.size, i.bytes)) = some (some (Value.string ⟨#[]⟩), 1, 16)) : ∃ i0, i = some i0 ∧ i0.zero = some (Value.string ⟨#[]⟩) ∧ i0.size = 1 ∧ i0.bytes = 16 := by
  cases i with
  | none => cases h
  | some i0 => simp at h; exact ⟨i0, rfl, h.1, h.2.1, h.2.2⟩
theorem strs_app (a b : List (List Nat)) : strs (a ++ b) = strs a ++ strs b := by simp [strs]
theorem Buf.tch {w w' : World} {base n : Nat} {v : Value} {xs : List Value} {L : List Nat} (h : Buf w base v n xs) (t : Tch w w' L) (hL : ∀ i ∈ L, i < base) : Buf w' base v n xs :=
  h.keep t.size (fun k hk => t.block k (h.lt k hk).2 (fun hm => by have := hL k hm; have := (h.lt k hk).1; omega))

set_option maxHeartbeats 4000000 in
set_option maxRecDepth 100000 in
theorem parts_any (w : World) (B g en : Nat) (bs : List Nat) (s : TS) (h : Rx w B g bs en s) :
    Calls Try.prog 44 #[.pointer (some ⟨g, 0, none⟩)] w fun ee w' => ∃ v, ee = .returned v ∧ Buf w' w.heap.size v (rP s).1.length (strs (rP s).1) ∧ Rx w' B g bs en (rP s).2 ∧ Tch w w' [g] := by
  obtain ⟨iS, hiS, hq0, hq1, hq2⟩ := infoS_parts Try.infoStr
  have HC := Lib.hid (count_any w B g en bs s h 100 (by omega))
  have HTX := Lib.hid (fun W u (hW : Rx W B g bs en u) => text_any W B g en bs u hW)
  have HRP : Hid (rP s = rParts (rC s 100).1 (rC s 100).2 []) := Lib.hid rfl
  have hle := rC_le s 100
  generalize rP s = R at *
  generalize hn0 : (rC s 100).1 = n0 at *
  generalize hs0 : (rC s 100).2 = s0 at *
  have HGL := Lib.hid h.g_lt
  have HLO := Lib.hid h.lo
  have hni : (n0 : Int) ≤ 100 := by omega
  clear h hn0 hs0
  go_enter Try.func44, Try.ntmps44
  go_wp2_with fail
  refine HC.out.mono ?_
  rintro ee w2 ⟨rfl, h2, t2⟩
  have H2 := Lib.hid h2
  have T2 := Lib.hid t2
  clear h2 t2 HC
  go_upto_region 3 with fail
  go_loopg [3, 4] n0 (fun kx s3 s4 wr => ∃ (n : Nat) (u : TS) (L : List (List Nat)), s4 = .int .i64 n ∧ n ≤ kx ∧ Hid (L.length + n ≤ 100) ∧ Hid (Rx wr B g bs en u) ∧ Hid (Tch w wr [g]) ∧ Hid (Buf wr w.heap.size s3 L.length (strs L)) ∧ Hid (R = rParts n u L))
  case atStart => exact ⟨n0, s0, [], rfl, Nat.le_refl _, Lib.hid (by simpa using hle), H2, T2, Lib.hid (Buf.nil _ _), HRP⟩
  case round =>
    obtain ⟨n, u, L, rfl, hk, HLN, HX, HT, HB, HF⟩ := hrel
    obtain ⟨A1, c1, hb1, _⟩ := HX.out.box
    have d3 := hb1.c3
    obtain ⟨q1, q2⟩ := HX.out.tld
    have hn1 : (n : Int) ≤ 100 := by have := HLN.out; omega
    clear hb1
    cases n with
    | zero =>
      have HE : Hid (R = (L, u)) := Lib.hid (by rw [HF.out]; rfl)
      clear q1 q2 d3
      go_wp2
      go_ret
      rw [HE.out]
      exact ⟨u3, rfl, HB.out, HX.out, HT.out⟩
    | succ n =>
      have hpos : (0 : Int) < ((n + 1 : Nat) : Int) := by omega
      by_cases h0 : u.2 = 0
      · have e0 := q1.2 h0
        rw [e0] at d3
        have HE : Hid (R = rParts n (rT u).2 (L ++ [(rT u).1])) := Lib.hid (by
          rw [HF.out, rParts, if_neg (by simpa using h0)])
        have HTX2 := Lib.hid (HTX.out wr u HX.out)
        clear q1 q2 h0 e0
        go_wp2_with fail
        refine HTX2.out.mono ?_
        rintro ee w5 ⟨rfl, h5, t5⟩
        have H5 := Lib.hid h5
        have T5 := Lib.hid (HT.out.trans t5 (fun i hi => .inl hi))
        have hb5 := HB.out.tch t5 (by simp; exact HGL.out)
        have hs5 : w.heap.size ≤ w5.heap.size := T5.out.size
        generalize (rT u).2 = u2 at *
        generalize hpp : (rT u).1 = p at *
        have hL1 : L.length + 1 ≤ 101 := by have := HLN.out; omega
        clear h5 t5 hpp
        go_wp2_with (at_builtin; refine wpList_append_one _ rfl (.tmp 18) (.tmp 21) 56 rfl w.heap.size 9 iS (.string ⟨#[]⟩) 16 Try.underlying56 hiS hq0 hq1 hq2 rfl rfl hb5 rfl rfl ?b1 ?b2 hs5 ?next)
        case b1 => unfold maxLen; omega
        case b2 => omega
        case next =>
          intro v6 w6 r1 r2 r3
          have t6 : Tch w5 w6 v6.ownBlock.toList ∨ True := .inr trivial
          have HBN : Hid (Buf w6 w.heap.size v6 (L ++ [p]).length (strs (L ++ [p]))) := Lib.hid (by
            rw [List.length_append, strs_app]; exact r1)
          have tg : Tch w5 w6 u3.ownBlock.toList := Tch.of_grown r2 (fun k hk => by rw [hk]; simp)
          have hbb := hb5.lt
          have HXN : Hid (Rx w6 B g bs en u2) := Lib.hid (H5.out.tch tg (by
              intro hm; simp at hm; have := (hbb g hm).1; have := HGL.out; omega) (by
              intro i hi; simp at hi; have := (hbb i hi).1; have := HGL.out; have := HLO.out; omega))
          have HTN : Hid (Tch w w6 [g]) := Lib.hid (T5.out.trans tg (by
              intro i hi; simp at hi; exact .inr (hbb i hi).1))
          have HLN2 : Hid ((L ++ [p]).length + n ≤ 100) := Lib.hid (by have := HLN.out; rw [List.length_append]; simp; omega)
          clear r1 r2 r3 t6 tg hbb hb5
          go_wp2
          go_roundg n
          case measure => omega
          case rel => exact ⟨n, u2, L ++ [p], by go_num, Nat.le_refl _, HLN2, HXN, HTN, HBN, HE⟩
      · have HE : Hid (R = (L, u)) := Lib.hid (by rw [HF.out, rParts, if_pos (by simpa using h0)])
        have e2 : ((told en u.2 : Int) != 0) = true := by simp [bne]; intro h1; exact h0 (q1.1 (by omega))
        have e3 : ((told en u.2 : Int) == 0) = false := by simp; intro h1; exact h0 (q1.1 (by omega))
        clear h0 q1 q2
        generalize (told en u.2 : Int) = E2 at *
        go_wp2
        go_ret
        rw [HE.out]
        exact ⟨u3, rfl, HB.out, HX.out, HT.out⟩
end Go.Proofs.Ytkdkihacpjhgmaa
