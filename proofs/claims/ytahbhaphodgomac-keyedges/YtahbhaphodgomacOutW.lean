/- The walk of KeyOuters. -/
import Derived.Test.YtahbhaphodgomacOutM
import Derived.Test.YtahbhaphodgomacK5
namespace Go.Proofs.Ytahbhaphodgomac
set_option linter.unusedSimpArgs false
set_option linter.unusedVariables false
open Go.RowKit

set_option maxHeartbeats 1000000 in
theorem outers_long (s : ByteArray) (h : (300 : Int) < (s.size : Int)) (w : World) :
    Calls Try.prog 5 #[.string s] w fun e w' => e = .returned (.bool true) ∧ Below w.heap.size w w' := by
  go_enter Try.func5, Try.ntmps5
  go_wp2_with fail
  refine (head_any _).mono ?_
  rintro e w1 ⟨rfl, hb1⟩
  go_wp2_with fail
  go_ret
  exact ⟨rfl, hb1⟩

theorem strB_extract (s : List Nat) (i j : Nat) : (strB s).extract i j = strB ((s.drop i).take (j - i)) := by
  unfold strB
  rw [ByteArray.ext_iff]
  simp [ByteArray.data_extract, List.map_drop, List.map_take]
theorem strB_is (l m : List Nat) (hl : ∀ c ∈ l, c < 256) (hm : ∀ c ∈ m, c < 256) : (strB l).toList = m.map UInt8.ofNat ↔ l = m := by
  rw [strB_list]
  exact ⟨map_ofNat_inj l m hl hm, fun h => by rw [h]⟩

/-- What Outer answers, and what the law asks of it. -/
structure Ans (s : List Nat) (K : ByteArray) (S : Int) (D : Bool) (e : Int) : Prop where
  right : e = 0 → fin s = true ∧ ∃ k T, K = strB k ∧ S = ((T : Nat) : Int) ∧ okE k T ∧ (∀ c ∈ k, c < 256) ∧ s = M.inner k T D
  wrong : e ≠ 0 → fin s = false ∧ e = 2 ∧ K = ⟨#[]⟩ ∧ S = 0 ∧ D = false

theorem ans_any (s : List Nat) (hs : ∀ c ∈ s, c < 256) (hl : s.length ≤ 1000000) : ∃ K S D e, Ans s K S D e ∧ ∀ w, Calls Try.prog 14 #[.string (strB s)] w fun r w' => r = .returned (.tuple #[ent K S D ⟨#[]⟩, .int .i64 e]) ∧ Below w.heap.size w w' := by
  by_cases h : ∃ k S d, okE k S ∧ s = M.inner k S d
  · obtain ⟨k, S, d, hok, rfl⟩ := h
    have hk : ∀ c ∈ k, c < 256 := by
      intro c hc
      have : ∀ (k : List Nat), c ∈ k → c ∈ M.esc k := by
        intro k
        induction k with
        | nil => simp
        | cons x k ih =>
          intro hx
          simp only [List.mem_cons] at hx
          by_cases h0 : x = 0
          · subst h0
            rw [M.esc_zero]
            rcases hx with rfl | hx
            · simp
            · simp [ih hx]
          · rw [M.esc_pos _ _ h0]
            rcases hx with rfl | hx
            · simp
            · simp [ih hx]
      exact hs c (by unfold M.inner; simp [this k hc])
    exact ⟨strB k, S, d, 0, ⟨fun _ => ⟨fin_yes k S d hok, k, S, rfl, rfl, hok, hk, rfl⟩, fun h => absurd rfl h⟩, fun w => outer_yes k hk S d hok w⟩
  · refine ⟨⟨#[]⟩, 0, false, 2, ⟨fun h => absurd h (by decide), fun _ => ⟨?_, rfl, rfl, rfl, rfl⟩⟩, fun w => outer_no s hs hl (fun k S d hok e => h ⟨k, S, d, hok, e⟩) w⟩
    cases hf : fin s with
    | false => rfl
    | true => exact absurd (fin_no s hs hf) h

set_option maxHeartbeats 2000000 in
set_option maxRecDepth 100000 in
theorem outers_walk (s : List Nat) (hs : ∀ c ∈ s, c < 256) (hl : s.length ≤ 300) (w : World) :
    Calls Try.prog 5 #[.string (strB s)] w fun e w' => e = .returned (.bool true) ∧ Below w.heap.size w w' := by
  obtain ⟨K, S, D, eo, hans, hcall⟩ := ans_any s hs (by omega)
  have HANS := Lib.hid hans
  have HCALL := Lib.hid hcall
  clear hans hcall
  have hsz : (strB s).size = s.length := strB_size s
  have HS := Lib.hid hs
  clear hs
  generalize hn : s.length = n at *
  have HN := Lib.hid hn
  clear hn
  have hd3 : decide ((300 : Int) < (n : Int)) = false := by simp; omega
  obtain ⟨R0, HR0⟩ : ∃ R, Hid (tailOk s = R) := ⟨_, Lib.hid rfl⟩
  unfold ent at HCALL
  go_enter Try.func5, Try.ntmps5
  go_wp2_with fail
  refine (head_any _).mono ?_
  rintro e w1 ⟨rfl, hb1⟩
  go_wp2_with fail
  refine (HCALL.out _).mono ?_
  rintro e w2 ⟨rfl, hb2⟩
  have hbel := hb1.trans (hb2.mono hb1.size)
  clear hb1 hb2
  go_upto_if 21 with fail
  go_cut [5] (fun t wx => t = .bool R0 ∧ w2.alloc (.cells #[.string K, .int .u64 S, .bool D, .string ⟨#[]⟩] 24) = wx)
  case first =>
    by_cases h11 : 11 ≤ n
    · have h11' : decide ((11 : Int) ≤ (n : Int)) = true := by simp; omega
      go_wp2
      all_goals go_meet
      · rename_i hx _
        refine ⟨congrArg Value.bool ?_, rfl⟩
        rw [← HR0.out]
        unfold tailOk
        rw [strB_at s HS.out (n - 8) (by rw [hsz]; omega)]
        rw [strB_extract, show n - 8 - (n - 10) = 2 by omega] at hx
        have hx' := (strB_is _ [0, 1] (fun c hc => HS.out c (List.mem_of_mem_drop (List.mem_of_mem_take hc))) (by decide)).1 hx
        rw [HN.out, hx', decide_eq_true h11, decide_eq_true (rfl : [0, 1] = [0, 1]), Bool.true_and, Bool.true_and, decide_eq_decide]
        omega
      · rename_i hx
        refine ⟨congrArg Value.bool ?_, rfl⟩
        rw [← HR0.out]
        unfold tailOk
        rw [strB_extract, show n - 8 - (n - 10) = 2 by omega] at hx
        have hx' : ¬ List.take 2 (List.drop (n - 10) s) = [0, 1] := fun h => hx ((strB_is _ [0, 1] (fun c hc => HS.out c (List.mem_of_mem_drop (List.mem_of_mem_take hc))) (by decide)).2 h)
        rw [HN.out, decide_eq_false hx']
        simp
    · have h11' : decide ((11 : Int) ≤ (n : Int)) = false := by simp; omega
      go_wp2
      go_meet
      refine ⟨congrArg Value.bool ?_, rfl⟩
      rw [← HR0.out, h11']
      unfold tailOk
      rw [HN.out, decide_eq_false h11]
      rfl
  case rest =>
    obtain ⟨rfl, rfl⟩ := hcut
    have a3 := At4.new w2 (.string K) (.int .u64 S) (.bool D) (.string ⟨#[]⟩) 24
    have hbel3 := hbel.alloc (hbel.size) (.cells #[.string K, .int .u64 S, .bool D, .string ⟨#[]⟩] 24)
    clear hbel
    generalize w2.alloc (.cells #[.string K, .int .u64 S, .bool D, .string ⟨#[]⟩] 24) = w3 at *
    go_wp2_with fail
    go_loop [5, 6, 7] (fun r c i => ∃ (rt : Bool) (q j : Nat), r = .bool rt ∧ c = .int .i64 q ∧ i = .int .i64 j ∧ j ≤ 301 ∧ q ≤ j ∧ Hid ((rt = true → R0 = true ∧ j ≤ n - 10 ∧ unc (s.take (n - 10)) = (unc ((s.take (n - 10)).drop j)).map (· + q)) ∧ (rt = false → fin s = false))) (fun _ _ i => 400 - (intOf i).toNat)
    case atStart =>
      refine ⟨R0, 0, 0, rfl, rfl, rfl, by omega, by omega, Lib.hid ⟨fun h => ⟨h, by omega, ?_⟩, fun h => ?_⟩⟩
      · cases hu : unc (s.take (n - 10)) <;> simp [hu]
      · have := HR0.out
        unfold fin
        rw [this, h]; rfl
    case round =>
      obtain ⟨rt, q, j, rfl, rfl, rfl, hj, hq, HI⟩ := hrel
      cases rt
      · -- nothing is right any more
        have hfin := HI.out.2 rfl
        have he0 : eo ≠ 0 := fun e => by have := (HANS.out.right e).1; rw [hfin] at this; cases this
        obtain ⟨_, rfl, rfl, rfl, rfl⟩ := HANS.out.wrong he0
        obtain ⟨p0, p1, p2, p3, _, _, _, _⟩ := a3
        clear HI HANS hfin
        go_wp2_with fail
        go_ret
        exact ⟨rfl, hbel3⟩
      · obtain ⟨hR, hjm, hun⟩ := HI.out.1 rfl
        have HUN := Lib.hid hun
        have h11 : 11 ≤ n := by
          have := HR0.out
          rw [hR] at this
          unfold tailOk at this
          rw [HN.out] at this
          simp at this
          exact this.1
        clear hun HI
        have hpl : (s.take (n - 10)).length = n - 10 := by rw [List.length_take, HN.out]; omega
        have HPL := Lib.hid hpl
        have hpg : ∀ x, x < n - 10 → (s.take (n - 10)).getD x 0 = s.getD x 0 := fun x hx => by simp [List.getD_eq_getElem?_getD, List.getElem?_take, hx]
        have HPG := Lib.hid hpg
        clear hpl hpg
        have HFN : Hid (∀ o, unc (s.take (n - 10)) = o → fin s = (match o with | some x => decide (x ≤ 128) | none => false)) := by
          refine Lib.hid fun o ho => ?_
          have := HR0.out
          unfold fin
          rw [this, hR, HN.out, ho]; rfl
        by_cases hlt : j < n - 10
        · have hlt' : (j : Int) < (n : Int) - 10 := by omega
          have hjs : j < (strB s).size := by rw [hsz]; omega
          have hat := Lib.hid (strB_at s HS.out j hjs)
          have hcb := getD_lt HS.out j
          have HD : Hid ((s.take (n - 10)).drop j = s.getD j 0 :: (s.take (n - 10)).drop (j + 1)) := Lib.hid (by rw [drop_cons _ j (by rw [HPL.out]; exact hlt), HPG.out j hlt])
          obtain ⟨c, EC⟩ : ∃ c, Hid (s.getD j 0 = c) := ⟨_, Lib.hid rfl⟩
          rw [EC.out] at hcb HD
          have hbyte : ((strB s)[j]'hjs).toNat = c := hat.out.trans EC.out
          by_cases h0 : c = 0
          · subst h0
            by_cases hlt2 : j + 1 < n - 10
            · have hlt2' : (j : Int) + 1 < (n : Int) - 10 := by omega
              have hjs2 : j + 1 < (strB s).size := by rw [hsz]; omega
              have hat2 := Lib.hid (strB_at s HS.out (j + 1) hjs2)
              have hcb2 := getD_lt HS.out (j + 1)
              have HD2 : Hid ((s.take (n - 10)).drop (j + 1) = s.getD (j + 1) 0 :: (s.take (n - 10)).drop (j + 1 + 1)) := Lib.hid (by rw [drop_cons _ (j + 1) (by rw [HPL.out]; exact hlt2), HPG.out _ hlt2])
              obtain ⟨d, ED⟩ : ∃ d, Hid (s.getD (j + 1) 0 = d) := ⟨_, Lib.hid rfl⟩
              rw [ED.out] at hcb2 HD2
              have hbyte2 : ((strB s)[j + 1]'hjs2).toNat = d := hat2.out.trans ED.out
              have hU := HUN.out
              rw [HD.out, HD2.out] at hU
              have HU := Lib.hid hU
              clear hU HUN
              by_cases hd : d = 255
              · subst hd
                go_wp2
                go_round
                case rel =>
                  refine ⟨true, q + 1, j + 1 + 1, rfl, by go_num, by go_num, by omega, by omega, Lib.hid ⟨fun _ => ⟨hR, by omega, ?_⟩, fun h => by cases h⟩⟩
                  rw [HU.out, unc_zero]
                  cases unc (List.drop (j + 1 + 1) (s.take (n - 10))) with
                  | none => rfl
                  | some x => simp; omega
                case measure => simp [intOf]; omega
              · have hd' : ((d : Int) == 255) = false := by simp; omega
                go_wp2
                go_round
                case rel =>
                  refine ⟨false, q + 1, j + 1 + 1, rfl, by go_num, by go_num, by omega, by omega, Lib.hid ⟨(fun h => by cases h), fun _ => ?_⟩⟩
                  have := HU.out
                  rw [unc_bad _ _ hd] at this
                  exact HFN.out _ this
                case measure => simp [intOf]; omega
            · have hlt2' : decide ((j : Int) + 1 < (n : Int) - 10) = false := by simp; omega
              have hU := HUN.out
              rw [HD.out, List.drop_of_length_le (by rw [HPL.out]; omega), unc_one] at hU
              have HU := Lib.hid hU
              clear hU HUN
              go_wp2
              go_round
              case rel => exact ⟨false, q + 1, j + 1 + 1, rfl, by go_num, by go_num, by omega, by omega, Lib.hid ⟨(fun h => by cases h), fun _ => HFN.out _ HU.out⟩⟩
              case measure => simp [intOf]; omega
          · have h0' : ((c : Int) == 0) = false := by simp; omega
            have hU := HUN.out
            rw [HD.out, unc_pos _ _ h0] at hU
            have HU := Lib.hid hU
            clear hU HUN
            go_wp2
            go_round
            case rel =>
              refine ⟨true, q + 1, j + 1, rfl, by go_num, by go_num, by omega, by omega, Lib.hid ⟨fun _ => ⟨hR, by omega, ?_⟩, fun h => by cases h⟩⟩
              rw [HU.out]
              cases unc (List.drop (j + 1) (s.take (n - 10))) with
              | none => rfl
              | some x => simp; omega
            case measure => simp [intOf]; omega
        · have hd2 : decide ((j : Int) < (n : Int) - 10) = false := by simp; omega
          have hU := HUN.out
          rw [List.drop_of_length_le (by rw [HPL.out]; omega)] at hU
          have hfin := HFN.out _ hU
          simp [unc] at hfin
          have HFIN := Lib.hid hfin
          clear hU hfin HUN HFN
          obtain ⟨p0, p1, p2, p3, _, _, _, _⟩ := a3
          by_cases h128 : q ≤ 128
          · have h128' : decide ((q : Int) ≤ 128) = true := by simp; omega
            have he0 : eo = 0 := by
              by_cases e : eo = 0
              · exact e
              · have := (HANS.out.wrong e).1
                rw [HFIN.out, decide_eq_true h128] at this
                cases this
            subst he0
            obtain ⟨_, k, T, rfl, rfl, hok, hk, hsk⟩ := HANS.out.right rfl
            have HSK := Lib.hid hsk
            have HOK := Lib.hid hok
            have HK := Lib.hid hk
            have hck := fun w => check_any (strB k) (T : Int) D ⟨#[]⟩ (by rw [strB_size]; have := hok.2.1; unfold maxLen; omega) (by show 0 ≤ maxLen; omega) w
            rw [chk_ok k T D hok] at hck
            have HCK := Lib.hid hck
            clear hsk hok hk HANS hck
            go_wp2_with fail
            refine (HCK.out _).mono ?_
            rintro e w4 ⟨rfl, hb4⟩
            have b4 := (At4.mk p0 p1 p2 p3 (by assumption) (by assumption) (by assumption) (by assumption)).below hb4 (World.block_lt_of_cell? _ _ p0)
            clear p0 p1 p2 p3
            obtain ⟨p0, p1, p2, p3, _, _, _, _⟩ := b4
            go_wp2_with fail
            refine (inner_any k HK.out (by have := HOK.out.2.1; omega) T (by have := HOK.out.2.2; omega) D ⟨#[]⟩ _).mono ?_
            rintro e w5 ⟨rfl, hb5⟩
            rw [← HSK.out]
            have hsame := strB_same s
            have hb45 := (hbel3.trans (hb4.mono hbel3.size))
            have hb6 := hb45.trans (hb5.mono hb45.size)
            go_wp2_with fail
            go_ret
            exact ⟨rfl, hb6⟩
          · have h128' : decide ((q : Int) ≤ 128) = false := by simp; omega
            have he0 : eo ≠ 0 := by
              intro e
              have := (HANS.out.right e).1
              rw [HFIN.out, decide_eq_false h128] at this
              cases this
            obtain ⟨_, rfl, rfl, rfl, rfl⟩ := HANS.out.wrong he0
            clear HANS HFIN
            go_wp2_with fail
            go_ret
            exact ⟨rfl, hbel3⟩
end Go.Proofs.Ytahbhaphodgomac
