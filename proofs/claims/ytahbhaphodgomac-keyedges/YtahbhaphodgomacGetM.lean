/- What Get takes is what Put lays; cut short it is short. -/
import Derived.Test.YtahbhaphodgomacK8
import Derived.Test.YtahbhaphodgomacOutW
import Derived.Test.YtahbhaphodgomacInnX
namespace Go.Proofs.Ytahbhaphodgomac
set_option linter.unusedSimpArgs false
set_option linter.unusedVariables false
open Go.RowKit

theorem getD_take (bs : List Nat) (j i : Nat) (h : i < j) : (bs.take j).getD i 0 = bs.getD i 0 := by
  simp [List.getD_eq_getElem?_getD, List.getElem?_take, h]
theorem gval_take (bs : List Nat) (j k : Nat) (h : k ≤ j) : M.gval (bs.take j) k = M.gval bs k := by
  induction k with
  | zero => rfl
  | succ k ih => rw [M.gval, M.gval, ih (by omega), getD_take bs j k (by omega)]

theorem take_low (bs : List Nat) (j : Nat) (h : j ≤ la bs) : tE (bs.take j) = 8 := by
  have hL := la_spec bs
  have hle := hL.le
  have h9 := hL.nine
  have hl : (bs.take j).length = j := by rw [List.length_take]; omega
  have hj : la (bs.take j) = j := la_of ⟨by omega, by omega, fun i hi => by rw [getD_take bs j i hi]; exact hL.high i (by omega), .inl hl.symm⟩
  have hg : M.ge (bs.take j) (la (bs.take j)) = 8 := by unfold M.ge; rw [if_pos (by rw [hj, hl])]
  rw [(tE_ge _ (by rw [hg]; decide)).1, hg]
theorem take_high (bs : List Nat) (j : Nat) (hb : ∀ c ∈ bs, c < 256) (h0 : M.ge bs (la bs) = 0) (hj : la bs < j) (hjl : j ≤ bs.length) :
    la (bs.take j) = la bs ∧ M.ge (bs.take j) (la bs) = 0 ∧ M.gn (bs.take j) (la bs) = M.gn bs (la bs) := by
  have hL := la_spec bs
  have hlt := ge_lt bs h0
  have h9 := hL.nine
  have hl : (bs.take j).length = j := by rw [List.length_take]; omega
  have hge : M.ge (bs.take j) (la bs) = 0 := by
    unfold M.ge at h0 ⊢
    rw [if_neg (by omega)] at h0 ⊢
    have hcond : ((la bs = 9 ∧ 1 < (bs.take j).getD 9 0) ∨ ((bs.take j).getD (la bs) 0 = 0 ∧ 0 < la bs)) ↔ ((la bs = 9 ∧ 1 < bs.getD 9 0) ∨ (bs.getD (la bs) 0 = 0 ∧ 0 < la bs)) := by
      rw [getD_take bs j (la bs) hj]
      constructor
      · rintro (⟨a, b⟩ | h)
        · rw [getD_take bs j 9 (by omega)] at b; exact .inl ⟨a, b⟩
        · exact .inr h
      · rintro (⟨a, b⟩ | h)
        · exact .inl ⟨a, by rw [getD_take bs j 9 (by omega)]; exact b⟩
        · exact .inr h
    by_cases hc : (la bs = 9 ∧ 1 < bs.getD 9 0) ∨ (bs.getD (la bs) 0 = 0 ∧ 0 < la bs)
    · rw [if_pos hc] at h0; cases h0
    · rw [if_neg (fun h => hc (hcond.1 h))]
  refine ⟨la_of ⟨by omega, h9, fun i hi => by rw [getD_take bs j i (by omega)]; exact hL.high i hi, ?_⟩, hge, ?_⟩
  · rcases hL.stop with h | h | h
    · omega
    · exact .inr (.inl h)
    · exact .inr (.inr (by rw [getD_take bs j _ hj]; exact h))
  · unfold M.gn
    rw [if_pos hge, if_pos h0, gval_take bs j _ (by omega)]

theorem tE0 (bs : List Nat) (h : tE bs = 0) : M.ge bs (la bs) = 0 ∧ ¬ bs.length - (la bs + 1) < M.gn bs (la bs) := by
  by_cases h0 : M.ge bs (la bs) = 0
  · by_cases hs : bs.length - (la bs + 1) < M.gn bs (la bs)
    · rw [(tE_short bs h0 hs).1] at h; cases h
    · exact ⟨h0, hs⟩
  · rw [(tE_ge bs h0).1] at h; exact absurd h h0

/-- A text that is read, laid again. -/
theorem txt_get (bs : List Nat) (hb : ∀ c ∈ bs, c < 256) (h : tE bs = 0) : txtB (tS bs) = bs.take (tN bs) := by
  obtain ⟨h0, hs⟩ := tE0 bs h
  obtain ⟨_, e2, e3⟩ := tE_ok bs h0 hs
  have hp := M.put_get bs (la bs) hb (la_spec bs) h0
  have hl : (tS bs).length = M.gn bs (la bs) := by rw [e3, List.length_take, List.length_drop]; omega
  unfold txtB
  rw [hl, hp.2.1, e3, e2, ← List.take_add]
theorem short_at (bs : List Nat) (hb : ∀ c ∈ bs, c < 256) (h : tE bs = 0) (j : Nat) (hj : j < tN bs) : tE (bs.take j) = 8 := by
  obtain ⟨h0, hs⟩ := tE0 bs h
  obtain ⟨_, e2, e3⟩ := tE_ok bs h0 hs
  have hle := tN_le bs
  by_cases hlow : j ≤ la bs
  · exact take_low bs j hlow
  · obtain ⟨q1, q2, q3⟩ := take_high bs j hb h0 (by omega) (by omega)
    have hl : (bs.take j).length = j := by rw [List.length_take]; omega
    exact (tE_short _ (by rw [q1]; exact q2) (by rw [q1, q3, hl]; omega)).1
theorem whole_at (bs : List Nat) (hb : ∀ c ∈ bs, c < 256) (h : tE bs = 0) (j : Nat) (hj : tN bs ≤ j) (hjl : j ≤ bs.length) : tE (bs.take j) = 0 ∧ tN (bs.take j) = tN bs := by
  obtain ⟨h0, hs⟩ := tE0 bs h
  obtain ⟨_, e2, e3⟩ := tE_ok bs h0 hs
  obtain ⟨q1, q2, q3⟩ := take_high bs j hb h0 (by omega) hjl
  have hl : (bs.take j).length = j := by rw [List.length_take]; omega
  have := tE_ok (bs.take j) (by rw [q1]; exact q2) (by rw [q1, q3, hl]; omega)
  exact ⟨this.1, by rw [this.2.1, q1, q3, e2]⟩

theorem inner_inj (k l : List Nat) (S T : Nat) (d e : Bool) (hk : okE k S) (hl : okE l T) (h : M.inner k S d = M.inner l T e) : k = l ∧ S = T ∧ d = e := by
  have h1 := (M.cut_iff (M.inner k S d) k (M.beB (M.turned (M.num2 S d)) 8)).2 rfl
  have h2 := (M.cut_iff (M.inner l T e) l (M.beB (M.turned (M.num2 T e)) 8)).2 rfl
  rw [← h, h1] at h2
  injection h2 with h2
  injection h2 with e1 e2
  refine ⟨e1, ?_⟩
  have q1 := nmb_inner S d hk.2.2
  have q2 := nmb_inner T e hl.2.2
  rw [e2, q2] at q1
  unfold M.num2 at q1
  cases d <;> cases e <;> simp at q1 ⊢ <;> omega

/-- A text that was laid, read. -/
theorem get_txt (s more : List Nat) (hs : s.length ≤ 10000000) : tE (txtB s ++ more) = 0 ∧ tN (txtB s ++ more) = (txtB s).length ∧ tS (txtB s ++ more) = s := by
  have hL := M.lead_put s.length (by omega) (s ++ more)
  have hg := M.get_put s.length (by omega) (s ++ more)
  rw [← List.append_assoc] at hL hg
  have hp := M.sz_pos s.length
  have ha : la (txtB s ++ more) = M.sz s.length - 1 := la_of hL
  have h0 : M.ge (txtB s ++ more) (la (txtB s ++ more)) = 0 := by rw [ha]; exact hg.1
  have hn : M.gn (txtB s ++ more) (la (txtB s ++ more)) = s.length := by rw [ha]; exact hg.2.2
  have hlen : (txtB s ++ more).length = M.sz s.length + s.length + more.length := by rw [List.length_append, txtB_len]
  obtain ⟨e1, e2, e3⟩ := tE_ok _ h0 (by rw [hn, hlen, ha]; omega)
  refine ⟨e1, by rw [e2, hn, ha, txtB_len]; omega, ?_⟩
  rw [e3, hn, ha, show M.sz s.length - 1 + 1 = M.sz s.length by omega]
  unfold txtB
  rw [List.append_assoc, List.drop_left' (M.putB_len s.length), List.take_left' rfl]

/-- What Get answers. -/
structure GAns (bs : List Nat) (K V : List Nat) (S : Nat) (D : Bool) (N : Nat) (E : Nat) : Prop where
  ok : E = 0 → okE K S ∧ chk (strB K).size S D (strB V).size = 0 ∧ entB K S D V = bs.take N ∧ N ≤ bs.length ∧ (∀ c ∈ K, c < 256) ∧ (∀ c ∈ V, c < 256) ∧ N = tN bs + tN (bs.drop (tN bs)) ∧ tE bs = 0 ∧ tE (bs.drop (tN bs)) = 0
  bad : E ≠ 0 → (E = 2 ∨ E = 8) ∧ K = [] ∧ V = [] ∧ S = 0 ∧ D = false ∧ N = 0
  s1 : tE bs = 8 → E = 8
  s2 : tE bs = 0 → tE (bs.drop (tN bs)) = 8 → E = 8
  inn : E = 0 → tS bs = M.inner K S D ∧ V = tS (bs.drop (tN bs))
  yes : tE bs = 0 → tE (bs.drop (tN bs)) = 0 → ∀ k T d, okE k T → tS bs = M.inner k T d → chk (strB k).size T d (strB (tS (bs.drop (tN bs)))).size = 0 → E = 0

theorem get_all (bs : List Nat) (hb : ∀ c ∈ bs, c < 256) (hl : bs.length ≤ 1000000) : ∃ K V S D N E, GAns bs K V S D N E ∧
    ∀ (A : Option Addr) (n c : Nat) (w : World) (B : Nat), B ≤ w.heap.size → Rd w B A n (bys bs) → n ≤ c → c ≤ maxLen →
      Calls Try.prog 16 #[.slice A n c] w fun e w' => e = .returned (.tuple #[ent (strB K) S D (strB V), .int .i64 (N : Int), .int .i64 (E : Int)]) ∧ Below w.heap.size w w' := by
  have hnn : ∀ (A : Option Addr) (n : Nat) (w : World) (B : Nat), Rd w B A n (bys bs) → n ≤ 10000000 := fun A n w B hr => by have := hr.1; rw [bys_len] at this; omega
  by_cases h1 : tE bs = 0
  · by_cases h2 : tE (bs.drop (tN bs)) = 0
    · obtain ⟨K, S, D, eo, hans, hcall⟩ := ans_any (tS bs) (tS_lt bs hb) (by have := tS_len bs; omega)
      by_cases he : eo = 0
      · obtain ⟨_, k, T, rfl, rfl, hok, hk, hin⟩ := hans.right he
        subst he
        have hkm : (strB k).size ≤ maxLen := by rw [strB_size]; have := hok.2.1; unfold maxLen; omega
        have hb2 : ∀ c ∈ bs.drop (tN bs), c < 256 := fun c hc => hb c (List.mem_of_mem_drop hc)
        by_cases hz : chk (strB k).size (T : Int) D (strB (tS (bs.drop (tN bs)))).size = 0
        · refine ⟨k, tS (bs.drop (tN bs)), T, D, tN bs + tN (bs.drop (tN bs)), 0, ⟨fun _ => ⟨hok, hz, ?_, ?_, hk, tS_lt _ hb2, rfl, h1, h2⟩, fun h => absurd rfl h, fun h => by omega, fun _ h => by omega, fun _ => ⟨hin, rfl⟩, fun _ _ _ _ _ _ _ _ => rfl⟩, ?_⟩
          · unfold entB
            rw [← hin, txt_get bs hb h1, txt_get _ hb2 h2, ← List.take_add]
          · have q1 := tN_le bs
            have q2 := tN_le (bs.drop (tN bs))
            rw [List.length_drop] at q2
            omega
          · intro A n c w B hB hr hc hcm
            have := get_tail A n c bs w B hB hr hb (hnn A n w B hr) hc hcm h1 h2 (strB k) T D 0 hkm hcall 0 hz _ rfl
            rw [if_pos ⟨rfl, rfl⟩] at this
            exact this
        · refine ⟨[], [], 0, false, 0, 2, ⟨(fun h => by cases h), fun _ => ⟨.inl rfl, rfl, rfl, rfl, rfl, rfl⟩, fun h => by omega, fun _ h => by omega, (fun h => by cases h), fun _ _ k' T' d' hok' hin' hz' => ?_⟩, ?_⟩
          · obtain ⟨rfl, rfl, rfl⟩ := inner_inj k' k T' T d' D hok' hok (hin'.symm.trans hin)
            exact absurd hz' hz
          intro A n c w B hB hr hc hcm
          have := get_tail A n c bs w B hB hr hb (hnn A n w B hr) hc hcm h1 h2 (strB k) T D 0 hkm hcall _ rfl _ rfl
          rw [if_neg (fun h => hz h.2)] at this
          exact this
      · obtain ⟨_, rfl, rfl, rfl, rfl⟩ := hans.wrong he
        refine ⟨[], [], 0, false, 0, 2, ⟨(fun h => by cases h), fun _ => ⟨.inl rfl, rfl, rfl, rfl, rfl, rfl⟩, fun h => by omega, fun _ h => by omega, (fun h => by cases h), fun _ _ k' T' d' hok' hin' hz' => ?_⟩, ?_⟩
        · have hf := (hans.wrong he).1
          rw [hin', fin_yes k' T' d' hok'] at hf
          cases hf
        intro A n c w B hB hr hc hcm
        have := get_tail A n c bs w B hB hr hb (hnn A n w B hr) hc hcm h1 h2 _ _ _ _ (Nat.zero_le _) hcall _ rfl _ rfl
        rw [if_neg (fun h => he h.1)] at this
        exact this
    · have hv := tE_vals (bs.drop (tN bs))
      refine ⟨[], [], 0, false, 0, tE (bs.drop (tN bs)), ⟨fun h => absurd h h2, fun _ => ⟨by omega, rfl, rfl, rfl, rfl, rfl⟩, fun h => by omega, fun _ h => h, fun h => absurd h h2, fun _ h => absurd h h2⟩, ?_⟩
      intro A n c w B hB hr hc hcm
      exact get_bad2 A n c bs w B hB hr hb (hnn A n w B hr) hc hcm h1 h2
  · have hv := tE_vals bs
    refine ⟨[], [], 0, false, 0, tE bs, ⟨fun h => absurd h h1, fun _ => ⟨by omega, rfl, rfl, rfl, rfl, rfl⟩, fun h => h, fun h => absurd h h1, fun h => absurd h h1, fun h => absurd h h1⟩, ?_⟩
    intro A n c w B hB hr hc hcm
    exact get_bad1 A n c bs w B hB hr hb (hnn A n w B hr) hc hcm h1

/-- An entry that was laid, read. -/
theorem get_ent (k : List Nat) (S : Nat) (d : Bool) (u more : List Nat) (hk : ∀ c ∈ k, c < 256) (hu : ∀ c ∈ u, c < 256) (hm : ∀ c ∈ more, c < 256) (hok : okE k S) (hz : chk (strB k).size S d (strB u).size = 0) (hl : (entB k S d u ++ more).length ≤ 1000000)
    (A : Option Addr) (n c : Nat) (w : World) (B : Nat) (hB : B ≤ w.heap.size) (hr : Rd w B A n (bys (entB k S d u ++ more))) (hc : n ≤ c) (hcm : c ≤ maxLen) :
    Calls Try.prog 16 #[.slice A n c] w fun e w' => e = .returned (.tuple #[ent (strB k) S d (strB u), .int .i64 ((entB k S d u).length : Int), .int .i64 0]) ∧ Below w.heap.size w w' := by
  have hb : ∀ c ∈ entB k S d u ++ more, c < 256 := by
    intro c hc
    simp only [List.mem_append] at hc
    rcases hc with hc | hc
    · exact entB_lt k S d u hk hu c hc
    · exact hm c hc
  have hel : (entB k S d u).length = (txtB (M.inner k S d)).length + (txtB u).length := by simp [entB]
  have hil := txtB_len (M.inner k S d)
  have hul := txtB_len u
  rw [List.length_append] at hl
  have e0 : entB k S d u ++ more = txtB (M.inner k S d) ++ (txtB u ++ more) := by simp [entB]
  have t1 := get_txt (M.inner k S d) (txtB u ++ more) (by omega)
  rw [← e0] at t1
  have hdrop : (entB k S d u ++ more).drop (tN (entB k S d u ++ more)) = txtB u ++ more := by rw [t1.2.1, e0, List.drop_left' rfl]
  have t2 := get_txt u more (by omega)
  rw [← hdrop] at t2
  obtain ⟨K, V, S', D, N, E, hans, hcall⟩ := get_all (entB k S d u ++ more) hb (by rw [List.length_append]; omega)
  have hE : E = 0 := hans.yes t1.1 t2.1 k S d hok t1.2.2 (by rw [t2.2.2]; exact hz)
  subst hE
  have hi := hans.inn rfl
  have ho := hans.ok rfl
  obtain ⟨rfl, rfl, rfl⟩ := inner_inj k K S S' d D hok ho.1 (t1.2.2.symm.trans hi.1)
  have hV : V = u := hi.2.trans t2.2.2
  subst hV
  have hN : N = (entB k S d V).length := by
    rw [ho.2.2.2.2.2.2.1, t2.2.1, t1.2.1, hel]
  subst hN
  exact hcall A n c w B hB hr hc hcm
end Go.Proofs.Ytahbhaphodgomac
