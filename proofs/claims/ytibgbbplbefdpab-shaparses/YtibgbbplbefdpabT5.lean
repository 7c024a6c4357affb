/- The walk of ShaParses. -/
import Derived.Test.YtibgbbplbefdpabT4
namespace Go.Proofs.Ytibgbbplbefdpab
set_option linter.unusedSimpArgs false
set_option linter.unusedVariables false
open Go.RowKit

def isH (c : Nat) : Bool := decide (0 ≤ dv c)
theorem isH_iff (c : Nat) : isH c = true ↔ (48 ≤ c ∧ c ≤ 57) ∨ (97 ≤ c ∧ c ≤ 102) := by
  unfold isH dv
  rw [decide_eq_true_iff]
  split
  · omega
  · split <;> omega
def okS (bs : List Nat) : Bool := decide (bs.length = 64) && bs.all isH
def ph (bs : List Nat) : List Nat := if okS bs then pTo bs 32 else Zs
def pe (bs : List Nat) : Int := if okS bs then 0 else 2
theorem ph_len (bs : List Nat) : (ph bs).length = 32 := by unfold ph; split; · exact pTo_len bs 32 (by omega)
                                                           rfl

theorem first_bad (bs : List Nat) (m : Nat) : ∃ n, n ≤ m ∧ (∀ k, k < n → 0 ≤ dv (bs.getD (2 * k) 0) ∧ 0 ≤ dv (bs.getD (2 * k + 1) 0)) ∧ (n < m → dv (bs.getD (2 * n) 0) < 0 ∨ dv (bs.getD (2 * n + 1) 0) < 0) := by
  induction m with
  | zero => exact ⟨0, Nat.le_refl _, fun k hk => absurd hk (by omega), fun h => absurd h (by omega)⟩
  | succ m ih =>
    obtain ⟨n, h1, h2, h3⟩ := ih
    by_cases hn : n < m
    · exact ⟨n, by omega, h2, fun _ => h3 hn⟩
    · obtain rfl : n = m := by omega
      by_cases hb : 0 ≤ dv (bs.getD (2 * n) 0) ∧ 0 ≤ dv (bs.getD (2 * n + 1) 0)
      · refine ⟨n + 1, Nat.le_refl _, fun k hk => ?_, fun h => absurd h (by omega)⟩
        by_cases e : k = n
        · subst e; exact hb
        · exact h2 k (by omega)
      · exact ⟨n, by omega, h2, fun _ => by omega⟩

theorem all_isH (bs : List Nat) (h : bs.length = 64) : bs.all isH = true ↔ ∀ k, k < 32 → 0 ≤ dv (bs.getD (2 * k) 0) ∧ 0 ≤ dv (bs.getD (2 * k + 1) 0) := by
  rw [List.all_eq_true]
  constructor
  · intro ha k hk
    have h1 := ha (bs.getD (2 * k) 0) (by rw [List.getD_eq_getElem?_getD, List.getElem?_eq_getElem (by omega)]; exact List.getElem_mem _)
    have h2 := ha (bs.getD (2 * k + 1) 0) (by rw [List.getD_eq_getElem?_getD, List.getElem?_eq_getElem (by omega)]; exact List.getElem_mem _)
    exact ⟨by simpa [isH] using h1, by simpa [isH] using h2⟩
  · intro ha c hc
    obtain ⟨i, hi, rfl⟩ := List.mem_iff_getElem.1 hc
    have := ha (i / 2) (by omega)
    rcases Nat.mod_two_eq_zero_or_one i with e | e
    · have e2 : 2 * (i / 2) = i := by omega
      have h1 := this.1
      rw [e2, List.getD_eq_getElem?_getD, List.getElem?_eq_getElem hi] at h1
      simpa [isH] using h1
    · have e2 : 2 * (i / 2) + 1 = i := by omega
      have h1 := this.2
      rw [e2, List.getD_eq_getElem?_getD, List.getElem?_eq_getElem hi] at h1
      simpa [isH] using h1

theorem parse_all (bs : List Nat) (hb : ∀ c ∈ bs, c < 256) (hl : bs.length ≤ 1000000) (w : World) :
    Calls Try.prog 6 #[.string (strB bs)] w fun e w' => e = .returned (.tuple #[.agg (bys (ph bs)).toArray, .int .i64 (pe bs)]) ∧ Below w.heap.size w w' := by
  by_cases h : bs.length = 64
  · obtain ⟨n, h1, h2, h3⟩ := first_bad bs 32
    have := parse_any bs h hb n h1 h2 h3 w
    by_cases hn : n < 32
    · have hno : okS bs = false := by
        unfold okS
        rw [Bool.and_eq_false_iff]
        right
        rw [← Bool.not_eq_true, all_isH bs h]
        intro ha
        have := ha n hn
        have := h3 hn
        omega
      rw [if_pos hn] at this
      simpa [ph, pe, hno, ZH] using this
    · obtain rfl : n = 32 := by omega
      have hyes : okS bs = true := by
        unfold okS
        rw [Bool.and_eq_true]
        exact ⟨by simpa using h, (all_isH bs h).2 h2⟩
      rw [if_neg hn] at this
      simpa [ph, pe, hyes] using this
  · have := parse_short bs h hl w
    have hno : okS bs = false := by simp [okS, h]
    simpa [ph, pe, hno, ZH] using this

theorem txt_pTo (bs : List Nat) (hb : ∀ c ∈ bs, c < 256) (h : okS bs = true) : txt (pTo bs 32) = bs := by
  unfold okS at h
  rw [Bool.and_eq_true] at h
  obtain ⟨h1, h2⟩ := h
  have h1 : bs.length = 64 := by simpa using h1
  have h2 := (all_isH bs h1).1 h2
  have hl : (pTo bs 32).length = 32 := pTo_len bs 32 (by omega)
  have hat : ∀ k, k < 32 → (pTo bs 32).getD (31 - k) 0 = pv bs k := by
    intro k hk
    unfold pTo
    rw [List.getD_eq_getElem?_getD]
    simp
    rw [List.getElem?_reverse (by simp; omega)]
    simp
    rw [List.getElem?_range (by omega)]
    simp
    congr 1
    omega
  apply List.ext_getElem (by rw [txt_len _ hl, h1])
  intro i i1 i2
  have hi : i < 64 := by omega
  obtain ⟨a1, a2⟩ := txt_at (pTo bs 32) hl (i / 2) (by omega)
  rw [hat (i / 2) (by omega)] at a1 a2
  obtain ⟨d1, d2⟩ := h2 (i / 2) (by omega)
  have l1 := dv_lt (bs.getD (2 * (i / 2)) 0)
  have l2 := dv_lt (bs.getD (2 * (i / 2) + 1) 0)
  have c1 := getD_lt hb (2 * (i / 2))
  have c2 := getD_lt hb (2 * (i / 2) + 1)
  have q1 : pv bs (i / 2) / 16 = (dv (bs.getD (2 * (i / 2)) 0)).toNat := by unfold pv; omega
  have q2 : pv bs (i / 2) % 16 = (dv (bs.getD (2 * (i / 2) + 1) 0)).toNat := by unfold pv; omega
  rw [q1, dv_hx _ c1 d1] at a1
  rw [q2, dv_hx _ c2 d2] at a2
  rcases Nat.mod_two_eq_zero_or_one i with e | e
  · have e2 : 2 * (i / 2) = i := by omega
    rw [e2] at a1
    simpa [List.getD, i1, i2] using a1
  · have e2 : 2 * (i / 2) + 1 = i := by omega
    rw [e2] at a2
    simpa [List.getD, i1, i2] using a2

theorem str_of (s : ByteArray) : ∃ bs : List Nat, s = strB bs ∧ ∀ c ∈ bs, c < 256 := by
  refine ⟨s.data.toList.map UInt8.toNat, ?_, ?_⟩
  · unfold strB
    rw [List.map_map]
    have : (UInt8.ofNat ∘ UInt8.toNat) = id := by funext x; simp
    rw [this]; simp
  · intro c hc
    simp only [List.mem_map] at hc
    obtain ⟨x, _, rfl⟩ := hc
    exact x.toNat_lt
/-- What 'right' is behind j signs. -/
def rt (bs : List Nat) (j : Nat) : Bool := decide (bs.length = 64) && (bs.take j).all isH
theorem rt_succ (bs : List Nat) (j : Nat) (hj : j < bs.length) : rt bs (j + 1) = (rt bs j && isH (bs.getD j 0)) := by
  unfold rt
  rw [List.take_succ_eq_append_getElem hj, List.all_append, Bool.and_assoc]
  simp [List.getD, hj]
theorem rt_all (bs : List Nat) : rt bs bs.length = okS bs := by simp [rt, okS]
theorem ph_lt (bs : List Nat) (hb : ∀ c ∈ bs, c < 256) : ∀ c ∈ ph bs, c < 256 := by
  unfold ph
  split
  · intro c hc
    simp [pTo] at hc
    obtain ⟨a, _, rfl⟩ := hc
    have l1 := dv_lt (bs.getD (2 * a) 0)
    have l2 := dv_lt (bs.getD (2 * a + 1) 0)
    unfold pv; omega
  · decide

set_option maxHeartbeats 1000000 in
set_option maxRecDepth 100000 in
theorem parses_long (s : ByteArray) (h : (200 : Int) < (s.size : Int)) (w : World) :
    Calls Try.prog 4 #[.string s] w fun e w' => e = .returned (.bool true) ∧ Below w.heap.size w w' := by
  have t1 := T1_size
  have t2 := T1_ext
  have t3 : (T1.toList.take 2) = [48, 49] := by decide +kernel
  go_enter Try.func4, Try.ntmps4
  go_wp2_with (refine wpList_of_wp rfl fun K hK => wp_build_arr 23 _ rfl 32 5 ZH HA Try.underlying23 Try.zero23 Try.size5 (by kernel_rfl) (hK _ _ ?_))
  refine (texthead _).mono ?_
  rintro e w1 ⟨rfl, hb1⟩
  go_wp2_with fail
  go_ret
  exact ⟨rfl, hb1⟩

set_option maxHeartbeats 1000000 in
set_option maxRecDepth 100000 in
theorem parses_walk (bs : List Nat) (hb : ∀ c ∈ bs, c < 256) (h : (bs.length : Int) ≤ 200) (w : World) :
    Calls Try.prog 4 #[.string (strB bs)] w fun e w' => e = .returned (.bool true) ∧ Below w.heap.size w w' := by
  obtain ⟨i0, hi, hz0, hz1, hz2⟩ := info_parts Try.info5
  have HB := Lib.hid hb
  have HE := Lib.hid (fun wx => run_eql_bys (P := Try.prog) wx 23 5 32 .u8 i0 Try.underlying23 hi Try.cells5 Try.underlying5 Zs Zs rfl rfl)
  have HSZ := Lib.hid (show (bys (ph bs)).length = 32 by rw [bys_len, ph_len])
  clear hb hi hz0 hz1 hz2
  have hsz : (strB bs).size = bs.length := strB_size bs
  have hd2 : decide ((200 : Int) < (bs.length : Int)) = false := by simp; omega
  have hrt0 : ((bs.length : Int) == 64) = rt bs 0 := by simp [rt]; rw [Bool.eq_iff_iff]; simp; omega
  have HRT := Lib.hid hrt0
  clear hrt0
  generalize hn : bs.length = n at *
  have HN := Lib.hid hn
  clear hn
  have t1 := T1_size
  have t2 := T1_ext
  have t3 : (T1.toList.take 2) = [48, 49] := by decide +kernel
  go_enter Try.func4, Try.ntmps4
  go_wp2_with (refine wpList_of_wp rfl fun K hK => wp_build_arr 23 _ rfl 32 5 ZH HA Try.underlying23 Try.zero23 Try.size5 (by kernel_rfl) (hK _ _ ?_))
  refine (texthead _).mono ?_
  rintro e w1 ⟨rfl, hb1⟩
  go_wp2_with fail
  clear t1 t2 t3
  refine (parse_all bs HB.out (by rw [HN.out]; omega) _).mono ?_
  rintro e w2 ⟨rfl, hb2⟩
  have hs2 := hb2.size
  have hs1 := hb1.size
  have HTN := Lib.hid (there_new w2 ZH 23 (bys (ph bs)).toArray.size (by rw [ZH_size]; exact HSZ.out.symm))
  have HR4 := Lib.hid (World.rangeAt_setCells_same (w2.alloc (.cells ZH 23)) w2.heap.size 0 (bys (ph bs)) (by simpa using HTN.out))
  have hb5 := Below.setCells' (((hb1.trans (hb2.mono (by omega)))).alloc (by omega) (.cells ZH 23)) w2.heap.size 0 (by omega) (bys (ph bs))
  have HSZ5 := Lib.hid (show ((w2.alloc (.cells ZH 23)).setCells w2.heap.size 0 (bys (ph bs))).heap.size = w2.heap.size + 1 by rw [size_setCells]; simp)
  clear hb1 hb2
  go_wp2_with (first
    | (refine wpList_of_wp rfl fun K hK => wp_alloc_arr 23 rfl ZH Try.zero23 (hK _ _ ?_))
    | (refine wpList_store_mid rfl 23 (.tmp 4) (.tmp 24) rfl w2.heap.size 0 (bys (ph bs)).toArray rfl rfl HTN.out (by rw [show (bys (ph bs)).toArray.size = 32 from HSZ.out]; exact Try.size23) (all_oneCell_toArray (bys_one _)) ?_))
  rw [HRT.out]
  change Code.wp _ _ _ _ ((w2.alloc (.cells ZH 23)).setCells w2.heap.size 0 (bys (ph bs)))
  generalize (w2.alloc (.cells ZH 23)).setCells w2.heap.size 0 (bys (ph bs)) = W4 at *
  go_loop [6, 7] (fun r i => ∃ j : Nat, j ≤ n ∧ i = .int .i64 j ∧ r = .bool (rt bs j)) (fun _ i => n - (intOf i).toNat)
  case atStart => exact ⟨0, Nat.zero_le _, rfl, rfl⟩
  case round =>
    obtain ⟨j, hj, rfl, rfl⟩ := hrel
    by_cases hlt : j < n
    · have hlt' : (j : Int) < (n : Int) := by omega
      have hR := Lib.hid (rt_succ bs j (by rw [HN.out]; exact hlt))
      have hsat := Lib.hid (fun h => strB_at bs HB.out j h)
      have hcb := getD_lt HB.out j
      have hH := Lib.hid (isH_iff (bs.getD j 0))
      obtain ⟨c, EC⟩ : ∃ c, Hid (bs.getD j 0 = c) := ⟨_, Lib.hid rfl⟩
      rw [EC.out] at hcb
      have hbyte : ((strB bs)[j]'(by rw [hsz]; exact hlt)).toNat = c := (hsat.out _).trans EC.out
      have hjsz : j < (strB bs).size := by rw [hsz]; exact hlt
      cases hrt : rt bs j
      · have HRJ := Lib.hid hrt
        clear hrt
        go_wp2_with fail
        go_round
        case rel => exact ⟨j + 1, by omega, by go_num, by rw [hR.out, HRJ.out]; rfl⟩
        case measure => simp [intOf]; omega
      · have HRJ := Lib.hid hrt
        clear hrt
        rcases (show c < 48 ∨ (48 ≤ c ∧ c ≤ 57) ∨ (58 ≤ c ∧ c ≤ 96) ∨ (97 ≤ c ∧ c ≤ 102) ∨ 103 ≤ c by omega) with hr | hr | hr | hr | hr
        · have hcc : c < 48 := by omega
          have hv := Lib.hid (show isH (bs.getD j 0) = false by rw [← Bool.not_eq_true, hH.out, EC.out]; omega)
          have f0 : decide ((48 : Int) ≤ (c : Int)) = false := by simp; omega
          have f1 : decide ((97 : Int) ≤ (c : Int)) = false := by simp; omega
          clear hcc
          go_wp2_with fail
          go_round
          case rel => exact ⟨j + 1, by omega, by go_num, by rw [hR.out, HRJ.out, hv.out]; rfl⟩
          case measure => simp [intOf]; omega
        · have hcc : 48 ≤ c ∧ c ≤ 57 := by omega
          have hv := Lib.hid (show isH (bs.getD j 0) = true by rw [hH.out, EC.out]; omega)
          have f0 : decide ((48 : Int) ≤ (c : Int)) = true := by simp; omega
          have f1 : decide ((c : Int) ≤ 57) = true := by simp; omega
          clear hcc
          go_wp2_with fail
          go_round
          case rel => exact ⟨j + 1, by omega, by go_num, by rw [hR.out, HRJ.out, hv.out]; rfl⟩
          case measure => simp [intOf]; omega
        · have hcc : 58 ≤ c ∧ c ≤ 96 := by omega
          have hv := Lib.hid (show isH (bs.getD j 0) = false by rw [← Bool.not_eq_true, hH.out, EC.out]; omega)
          have f0 : decide ((48 : Int) ≤ (c : Int)) = true := by simp; omega
          have f1 : decide ((c : Int) ≤ 57) = false := by simp; omega
          have f2 : decide ((97 : Int) ≤ (c : Int)) = false := by simp; omega
          clear hcc
          go_wp2_with fail
          go_round
          case rel => exact ⟨j + 1, by omega, by go_num, by rw [hR.out, HRJ.out, hv.out]; rfl⟩
          case measure => simp [intOf]; omega
        · have hcc : 97 ≤ c ∧ c ≤ 102 := by omega
          have hv := Lib.hid (show isH (bs.getD j 0) = true by rw [hH.out, EC.out]; omega)
          have f0 : decide ((48 : Int) ≤ (c : Int)) = true := by simp; omega
          have f1 : decide ((c : Int) ≤ 57) = false := by simp; omega
          have f2 : decide ((97 : Int) ≤ (c : Int)) = true := by simp; omega
          have f3 : decide ((c : Int) ≤ 102) = true := by simp; omega
          clear hcc
          go_wp2_with fail
          go_round
          case rel => exact ⟨j + 1, by omega, by go_num, by rw [hR.out, HRJ.out, hv.out]; rfl⟩
          case measure => simp [intOf]; omega
        · have hcc : 103 ≤ c := by omega
          have hv := Lib.hid (show isH (bs.getD j 0) = false by rw [← Bool.not_eq_true, hH.out, EC.out]; omega)
          have f0 : decide ((48 : Int) ≤ (c : Int)) = true := by simp; omega
          have f1 : decide ((c : Int) ≤ 57) = false := by simp; omega
          have f2 : decide ((97 : Int) ≤ (c : Int)) = true := by simp; omega
          have f3 : decide ((c : Int) ≤ 102) = false := by simp; omega
          clear hcc
          go_wp2_with fail
          go_round
          case rel => exact ⟨j + 1, by omega, by go_num, by rw [hR.out, HRJ.out, hv.out]; rfl⟩
          case measure => simp [intOf]; omega
    · obtain rfl : n = j := by omega
      have hfin := Lib.hid (show rt bs n = okS bs by rw [← HN.out]; exact rt_all bs)
      have hdl : decide ((n : Int) < (n : Int)) = false := by simp
      cases hok : okS bs
      · have HO := Lib.hid hok
        clear hok
        have ePH := Lib.hid (show ph bs = Zs by unfold ph; rw [HO.out]; rfl)
        have ePE := Lib.hid (show pe bs = 2 by unfold pe; rw [HO.out]; rfl)
        rw [hfin.out, HO.out, ePE.out, ePH.out]
        have HR5 := HR4.out
        rw [ePH.out] at HR5
        have HR6 := Lib.hid HR5
        clear HR5
        have heq := HE.out W4
        simp at heq
        have hguard := run_eqGuard_agg (P := Try.prog) W4 .eql 23 (.tmp 65) (.tmp 66) (bys Zs).toArray (bys Zs).toArray Try.eqg23
        go_wp2_with (refine wpList_load_mid_g (by kernel_rfl) 23 (.tmp 4) rfl w2.heap.size 0 rfl (bys Zs) _ HR6.out Try.underlying23 rfl Try.size23 ?_)
        change Oper.upon _ _ _ _ _ (((Sem.run Try.prog (Op.equalIn 10000 23 (Value.agg (bys Zs).toArray) (Value.agg (bys Zs).toArray)) W4).andThen _).andThen _)
        rw [heq]
        simp only [Result.andThen]
        rw [Oper.upon_value]
        go_wp2
        go_ret
        exact ⟨rfl, hb5⟩
      · have HO := Lib.hid hok
        clear hok
        have ePH := Lib.hid (show ph bs = pTo bs 32 by unfold ph; rw [HO.out]; rfl)
        have ePE := Lib.hid (show pe bs = 0 by unfold pe; rw [HO.out]; rfl)
        rw [hfin.out, HO.out, ePE.out]
        have hsame := strB_same bs
        go_wp2_with (first
          | (refine wpList_load_mid_g (by kernel_rfl) 23 (.tmp 4) rfl w2.heap.size 0 rfl (bys (ph bs)) _ HR4.out Try.underlying23 rfl (by rw [HSZ.out]; exact Try.size23) ?_))
        refine (text_any (ph bs) (ph_len bs) (ph_lt bs HB.out) _).mono ?_
        rintro e w6 ⟨rfl, hb6⟩
        rw [ePH.out, txt_pTo bs HB.out HO.out]
        have hbel := hb5.trans (hb6.mono hb5.size)
        clear hb6
        go_wp2_with fail
        go_ret
        exact ⟨rfl, hbel⟩
end Go.Proofs.Ytibgbbplbefdpab
