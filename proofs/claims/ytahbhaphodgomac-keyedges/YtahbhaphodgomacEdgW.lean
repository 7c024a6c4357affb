/- The walk of KeyEdges. -/
import Derived.Test.YtahbhaphodgomacShelf
import Derived.Test.YtahbhaphodgomacGetM
namespace Go.Proofs.Ytahbhaphodgomac
set_option linter.unusedSimpArgs false
set_option linter.unusedVariables false
open Go.RowKit

theorem i64_and3 (n : Int) : bits .and .i64 n 3 = n % 4 := by
  have h63 : (BitVec.ofInt 64 3).toNat = 2 ^ 2 - 1 := by decide
  have key : (BitVec.ofInt 64 n &&& BitVec.ofInt 64 3).toNat = (n % ((2 ^ 64 : Nat) : Int)).toNat % 2 ^ 2 := by
    rw [BitVec.toNat_and, BitVec.toNat_ofInt, h63, Nat.and_two_pow_sub_one_eq_mod]
  show IntKind.i64.wrap ((BitVec.ofInt 64 n &&& BitVec.ofInt 64 3).toNat : Nat) = n % 4
  rw [key, IntKind.wrap_i64]
  omega

/-- How long the value is. -/
def vlen (del : Bool) (r : Nat) : Nat := if del then 0 else 65534 + r

set_option maxHeartbeats 2000000 in
set_option maxRecDepth 100000 in
theorem edges_walk (a b c : Int) (del : Bool) (w : World) :
    Calls Try.prog 8 #[.int .i64 a, .int .i64 b, .int .i64 c, .bool del] w fun e w' => e = .returned (.bool true) ∧ Below w.heap.size w w' := by
  obtain ⟨p, hp4, hp⟩ : ∃ p : Nat, (p : Int) < 4 ∧ bits .and .i64 a 3 = (p : Int) := ⟨(a % 4).toNat, by omega, by rw [i64_and3]; omega⟩
  obtain ⟨r, hr4, hr⟩ : ∃ r : Nat, (r : Int) < 4 ∧ bits .and .i64 b 3 = (r : Int) := ⟨(b % 4).toNat, by omega, by rw [i64_and3]; omega⟩
  obtain ⟨q, hq4, hq⟩ : ∃ q : Nat, (q : Int) < 4 ∧ bits .and .i64 c 3 = (q : Int) := ⟨(c % 4).toNat, by omega, by rw [i64_and3]; omega⟩
  obtain ⟨al, hal, hal'⟩ : ∃ al : Nat, (126 : Int) + (p : Int) = (al : Int) ∧ al = 126 + p := ⟨126 + p, by omega, rfl⟩
  obtain ⟨bl, hbl, hbl'⟩ : ∃ bl : Nat, (65534 : Int) + (r : Int) = (bl : Int) ∧ bl = 65534 + r := ⟨65534 + r, by omega, rfl⟩
  obtain ⟨S, hS, hS'⟩ : ∃ S : Nat, (72057594037927934 : Int) + (q : Int) = (S : Int) ∧ S = 72057594037927934 + q := ⟨72057594037927934 + q, by omega, rfl⟩
  obtain ⟨vl, HVL⟩ : ∃ vl : Nat, Hid ((if del then 0 else bl) = vl) := ⟨_, Lib.hid rfl⟩
  have HAL := Lib.hid hal'
  have HBL := Lib.hid hbl'
  have HSS := Lib.hid hS'
  have hvl : vl ≤ 65537 := by rw [← HVL.out]; split <;> omega
  have hal9 : al ≤ 129 := by omega
  have HR1 := Lib.hid (fun w => rep_any 107 (by omega) al (by omega) w)
  have HR2 := Lib.hid (fun w => rep_any 118 (by omega) vl (by omega) w)
  have hk : ∀ c ∈ List.replicate al 107, c < 256 := fun c hc => by have := List.eq_of_mem_replicate hc; omega
  have hu : ∀ c ∈ List.replicate vl 118, c < 256 := fun c hc => by have := List.eq_of_mem_replicate hc; omega
  have hkl : (List.replicate al 107).length = al := by simp
  have hul : (List.replicate vl 118).length = vl := by simp
  generalize hK : List.replicate al 107 = K at *
  generalize hU : List.replicate vl 118 = U at *
  clear hK hU
  have hkm : (strB K).size ≤ maxLen := by rw [strB_size, hkl]; unfold maxLen; omega
  have hum : (strB U).size ≤ maxLen := by rw [strB_size, hul]; unfold maxLen; omega
  obtain ⟨z, HZ⟩ : ∃ z, Hid (chk (strB K).size S del (strB U).size = z) := ⟨_, Lib.hid rfl⟩
  have HCK := Lib.hid (check_any (strB K) S del (strB U) hkm hum)
  rw [HZ.out] at HCK
  have hzv : (if 1 < q then 1 else if 128 < al ∨ 65536 < vl then (6 : Int) else 0) = z := by
    rw [← HZ.out]
    unfold chk
    rw [strB_size, strB_size, hkl, hul]
    have hdv : del = true → vl = 0 := fun h => by rw [← HVL.out, h]; rfl
    by_cases h1 : 1 < q
    · rw [if_pos h1, if_pos (.inr (.inl (by omega)))]
    · have hcond : ¬ (al = 0 ∨ (72057594037927935 : Int) < (S : Int) ∨ (del = true ∧ vl ≠ 0)) := by
        rintro (h | h | ⟨h, h'⟩)
        · omega
        · omega
        · exact h' (hdv h)
      rw [if_neg h1, if_neg hcond]
  have HZV := Lib.hid hzv
  obtain ⟨y, HY⟩ : ∃ y : Int, Hid ((if 128 < al ∨ 65536 < vl then (6 : Int) else 0) = y) := ⟨_, Lib.hid rfl⟩
  rw [HY.out] at HZV
  clear hal' hbl' hS' hzv
  have e107 : strB [107] = ⟨#[107]⟩ := rfl
  have e118 : strB [118] = ⟨#[118]⟩ := rfl
  rw [e107] at HR1
  rw [e118] at HR2
  clear e107 e118
  unfold ent at HCK
  go_enter Try.func8, Try.ntmps8
  go_wp2_with fail
  refine (head_any _).mono ?_
  rintro e w1 ⟨rfl, hb1⟩
  go_upto_if 27 with fail
  go_cut [1] (fun t wx => t = .int .i64 (vl : Int) ∧ w1 = wx)
  case first =>
    cases del
    · go_wp2
      go_meet
      exact ⟨congrArg (Value.int .i64) (by rw [← HVL.out]; simp), rfl⟩
    · go_wp2
      go_meet
      exact ⟨congrArg (Value.int .i64) (by rw [← HVL.out]; simp), rfl⟩
  case rest =>
    obtain ⟨rfl, rfl⟩ := hcut
    go_wp2_with fail
    refine (HR1.out _).mono ?_
    rintro e w2 ⟨rfl, hb2⟩
    go_wp2_with fail
    refine (HR2.out _).mono ?_
    rintro e w3 ⟨rfl, hb3⟩
    have hB2 := hb1.trans (hb2.mono hb1.size)
    have hB3 := hB2.trans (hb3.mono hB2.size)
    have a4 := At4.new w3 (.string (strB K)) (.int .u64 (S : Int)) (.bool del) (.string (strB U)) 24
    have hB4 := hB3.alloc hB3.size (.cells #[.string (strB K), .int .u64 (S : Int), .bool del, .string (strB U)] 24)
    clear hb1 hb2 hb3 hB2 hB3
    have HSI := Lib.hid hS
    go_upto_region 10 with fail
    generalize w3.alloc (.cells #[.string (strB K), .int .u64 (S : Int), .bool del, .string (strB U)] 24) = w4 at *
    go_cut [40] (fun t wx => t = .bool (decide (128 < al ∨ 65536 < vl)) ∧ w4 = wx)
    case first =>
      go_wp2
      all_goals go_meet
      all_goals first
        | exact ⟨congrArg Value.bool (by rw [← Bool.decide_or, decide_eq_decide]; omega), rfl⟩
        | exact ⟨congrArg Value.bool (by rw [eq_comm, decide_eq_true_iff]; omega), rfl⟩
    case rest =>
      obtain ⟨rfl, rfl⟩ := hcut
      generalize hLL : decide (128 < al ∨ 65536 < vl) = LL at *
      have HLL := Lib.hid hLL
      clear hLL
      go_upto_if 40 with fail
      go_cut [11] (fun t wx => t = .int .i64 y ∧ w4 = wx)
      case first =>
        cases LL
        · go_wp2
          go_meet
          exact ⟨congrArg (Value.int .i64) (by rw [← HY.out, if_neg (by simpa using HLL.out)]), rfl⟩
        · go_wp2
          go_meet
          exact ⟨congrArg (Value.int .i64) (by rw [← HY.out, if_pos (by simpa using HLL.out)]), rfl⟩
      case rest =>
        obtain ⟨rfl, rfl⟩ := hcut
        go_upto_if 43 with fail
        go_cut [11] (fun t wx => t = .int .i64 z ∧ w4 = wx)
        case first =>
          by_cases hq1 : (1 : Int) < (q : Int)
          · go_wp2
            go_meet
            exact ⟨congrArg (Value.int .i64) (by rw [← HZV.out, if_pos (by omega)]), rfl⟩
          · have hq1' : decide ((1 : Int) < (q : Int)) = false := by simp; omega
            go_wp2
            go_meet
            exact ⟨congrArg (Value.int .i64) (by rw [← HZV.out, if_neg (by omega)]), rfl⟩
        case rest =>
          obtain ⟨rfl, rfl⟩ := hcut
          obtain ⟨p0, p1, p2, p3, _, _, _, _⟩ := id a4
          go_wp2_with fail
          refine (HCK.out _).mono ?_
          rintro e w5 ⟨rfl, hb5⟩
          have a5 := a4.below hb5 a4.lt
          have hB5 := hB4.trans (hb5.mono hB4.size)
          clear p0 p1 p2 p3
          by_cases hz : z = 0
          · subst hz
            have c0 := chk0 _ _ _ _ HZ.out
            rw [strB_size, strB_size, hkl, hul] at c0
            have hok : okE K S := ⟨fun e => c0.1 (by rw [← hkl, e]; rfl), by omega, by omega⟩
            have hil := M.inner_len K S del
            have hel := M.esc_len K
            have sz1 := M.sz_le (M.inner K S del).length (by omega)
            have sz2 := M.sz_le U.length (by omega)
            have hEl : (entB K S del U).length ≤ 80000 := by simp only [entB, List.length_append, txtB_len]; omega
            have HP := Lib.hid (fun wx : World => entPut_any K hk S del U hu (by omega) (by omega) hok.2.2 wx wx.heap.size (Buf.nil wx _) (by omega) (Nat.le_refl _))
            unfold ent at HP
            obtain ⟨p0, p1, p2, p3, _, _, _, _⟩ := id a5
            go_wp2_with fail
            refine (HP.out _).mono ?_
            rintro e w6 ⟨v6, rfl, hl6⟩
            have hb6 := hl6.below (Buf.nil w5 _) (Nat.le_refl _)
            have a6 := a5.below hb6 a5.lt
            have hB6 := hB5.trans (hb6.mono hB5.size)
            rw [Nat.zero_add, List.nil_append] at hl6
            obtain ⟨A6, c6, rfl, hc6, hr6⟩ := hl6.buf.slice
            have hcm6 := hl6.buf.cap_le
            have hr6' : Rd w6 w6.heap.size A6 (entB K S del U).length (bys (entB K S del U ++ [])) := by rw [List.append_nil]; exact hr6
            have HG := Lib.hid (get_ent K S del U [] hk hu (by simp) hok HZ.out (by rw [List.append_nil]; omega) A6 _ c6 w6 _ (Nat.le_refl _) hr6' hc6 hcm6)
            unfold ent at HG
            clear p0 p1 p2 p3 hr6 hr6' hl6
            go_wp2_with fail
            refine HG.out.mono ?_
            rintro e w7 ⟨rfl, hb7⟩
            have a7 := (a6.below hb7 a6.lt).alloc (.cells #[.string (strB K), .int .u64 (S : Int), .bool del, .string (strB U)] 24)
            have y7 := At4.new w7 (.string (strB K)) (.int .u64 (S : Int)) (.bool del) (.string (strB U)) 24
            have hB7 := hB6.trans (hb7.mono hB6.size)
            have hB8 := hB7.alloc hB7.size (.cells #[.string (strB K), .int .u64 (S : Int), .bool del, .string (strB U)] 24)
            obtain ⟨p0, p1, p2, p3, _, _, _, _⟩ := id a7
            obtain ⟨y0, y1, y2, y3, _, _, _, _⟩ := id y7
            have e1 := strB_same K
            have e2 := strB_same U
            go_upto_region 19 with fail
            generalize w7.alloc (.cells #[.string (strB K), .int .u64 (S : Int), .bool del, .string (strB U)] 24) = w8 at *
            go_wp2_with fail
            refine (HP.out _).mono ?_
            rintro e w9 ⟨v9, rfl, hl9⟩
            have hb9 := hl9.below (Buf.nil _ _) (Nat.le_refl _)
            have hB9 := hB8.trans (hb9.mono hB8.size)
            rw [Nat.zero_add, List.nil_append] at hl9
            obtain ⟨A9, c9, rfl, _, _⟩ := hl9.buf.slice
            go_wp2_with fail
            go_ret
            exact ⟨rfl, hB9⟩
          · have hzn : (z != 0) = true := by simpa using hz
            go_wp2_with fail
            go_ret
            exact ⟨rfl, hB5⟩
end Go.Proofs.Ytahbhaphodgomac
