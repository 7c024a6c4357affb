/- What stands beside a way to the root. -/
import Derived.Test.YtkokbpifjpmhlaaDoorQ4
import Derived.Test.YtkokbpifjpmhlaaDoorB5
namespace Go.Proofs.YtkokbpifjpmhlaaDoor
set_option linter.unusedSimpArgs false
set_option linter.unusedVariables false
open Go.RowKit

/-- The others of the pairs on the way. -/
def brs (hs : List (List Nat)) (a : Nat) : Nat → List (List Nat)
  | 0 => []
  | k + 1 => brs hs a k ++ [(rowK hs k).getD (oth (rowK hs k).length (a / 2 ^ k)) []]
theorem brs_len (hs : List (List Nat)) (a : Nat) : ∀ k, (brs hs a k).length = k
  | 0 => rfl
  | k + 1 => by rw [brs, List.length_append, brs_len hs a k]; rfl
theorem getD_is (hs : List (List Nat)) (hi : ∀ x ∈ hs, IsH x) (i : Nat) (h : i < hs.length) : IsH (hs.getD i []) := by
  rw [List.getD_eq_getElem?_getD, List.getElem?_eq_getElem h]; exact hi _ (List.getElem_mem h)
theorem brs_is (hs : List (List Nat)) (a : Nat) (hi : ∀ x ∈ hs, IsH x) : ∀ k, (∀ i, i < k → 1 < (rowK hs i).length) → ∀ x ∈ brs hs a k, IsH x
  | 0, _ => by intro x hx; simp [brs] at hx
  | k + 1, h => by
    intro x hx
    rw [brs, List.mem_append] at hx
    rcases hx with hx | hx
    · exact brs_is hs a hi k (fun i h' => h i (by omega)) x hx
    · simp only [List.mem_cons, List.not_mem_nil, or_false] at hx
      subst hx
      have := h k (by omega)
      exact getD_is _ (rowK_is hs hi k) _ (oth_lt _ _ (by omega))
theorem rowK_at (hs : List (List Nat)) (a : Nat) (ha : a < hs.length) : ∀ k, a / 2 ^ k < (rowK hs k).length
  | 0 => by simpa [rowK] using ha
  | k + 1 => by
    have h1 := rowK_at hs a ha k
    show a / 2 ^ (k + 1) < (abv (rowK hs k)).length
    rw [abv_len, Nat.pow_succ, ← Nat.div_div_eq_div_mul]
    omega
/-- With its branch a digest comes to its row's digest. -/
theorem clm_brs (hs : List (List Nat)) (a : Nat) (ha : a < hs.length) (K : Nat) : ∀ k, k ≤ K → (∀ i, i < k → 1 < (rowK hs i).length) → clm (hs.getD a []) (a : Int) (brs hs a K) k = (rowK hs k).getD (a / 2 ^ k) []
  | 0, _, _ => by simp [clm, rowK]
  | k + 1, hK, h => by
    have ih := clm_brs hs a ha K k (by omega) (fun i hi => h i (by omega))
    have hat := rowK_at hs a ha k
    have hgt : ∀ K, k < K → (brs hs a K).getD k [] = (rowK hs k).getD (oth (rowK hs k).length (a / 2 ^ k)) [] := by
      intro K
      induction K with
      | zero => intro h; omega
      | succ K ihK =>
        intro hk
        rw [brs]
        by_cases e : k = K
        · subst e
          rw [List.getD_eq_getElem?_getD, List.getElem?_append_right (by rw [brs_len]; omega), brs_len, Nat.sub_self]
          rfl
        · rw [List.getD_eq_getElem?_getD, List.getElem?_append_left (by rw [brs_len]; omega), ← List.getD_eq_getElem?_getD]
          exact ihK (by omega)
    rw [clm, ih, hgt K (by omega)]
    have hrow : (rowK hs (k + 1)).getD (a / 2 ^ (k + 1)) [] = pr ((rowK hs k).getD (2 * (a / 2 ^ (k + 1))) []) ((rowK hs k).getD (min (2 * (a / 2 ^ (k + 1)) + 1) ((rowK hs k).length - 1)) []) := by
      have := rowK_at hs a ha (k + 1)
      exact abv_at (rowK hs k) _ (by rw [← abv_len]; exact this)
    rw [hrow]
    have e2 : a / 2 ^ (k + 1) = a / 2 ^ k / 2 := by rw [Nat.pow_succ, Nat.div_div_eq_div_mul]
    rw [e2]
    have hlen := h k (by omega)
    have hcast : ((a : Int) / 2 ^ k) % 2 = ((a / 2 ^ k % 2 : Nat) : Int) := by
      rw [Int.natCast_emod, Int.natCast_ediv, Int.natCast_pow]; rfl
    rw [hcast]
    generalize a / 2 ^ k = b at *
    generalize rowK hs k = R at *
    unfold oth
    rw [nat_xor1]
    by_cases hodd : b % 2 = 1
    · rw [if_pos (by omega), if_neg (by omega), show min (b - 1) (R.length - 1) = b - 1 by omega, show 2 * (b / 2) = b - 1 by omega, show min (b - 1 + 1) (R.length - 1) = b by omega]
    · rw [if_neg (by omega), if_pos (by omega), show 2 * (b / 2) = b by omega]
/-- The digest comes to the root. -/
theorem clm_root (hs : List (List Nat)) (a : Nat) (ha : a < hs.length) (k : Nat) (h : ∀ i, i < k → 1 < (rowK hs i).length) (hle : (rowK hs k).length ≤ 1) : clm (hs.getD a []) (a : Int) (brs hs a k) k = root hs := by
  have hat := rowK_at hs a ha k
  rw [clm_brs hs a ha k k (Nat.le_refl _) h, root_rowK hs k h, root_one _ (by generalize a / 2 ^ k = q at hat; omega), show a / 2 ^ k = 0 by generalize a / 2 ^ k = q at hat ⊢; omega]

set_option maxHeartbeats 600000 in
set_option maxRecDepth 100000 in
theorem branch_none (A : Option Addr) (n c : Nat) (a : Int) (w : World) (h : a < 0 ∨ (n : Int) ≤ a) :
    Calls Tryd.prog 11 #[.slice A n c, .int .i64 a] w fun e w' => e = .returned (.tuple #[.slice none 0 0, .int .i64 1]) ∧ w = w' := by
  by_cases h0 : a < 0
  · go_enter Tryd.func11, Tryd.ntmps11
    go_wp2_with fail
    go_ret2
    exact ⟨rfl, rfl⟩
  · have h1 : decide (a < 0) = false := by simp; omega
    have h2 : (n : Int) ≤ a := by omega
    go_enter Tryd.func11, Tryd.ntmps11
    go_wp2_with fail
    go_ret2
    exact ⟨rfl, rfl⟩

set_option maxHeartbeats 600000 in
set_option maxRecDepth 100000 in
theorem branch_any (A : Option Addr) (n c a : Nat) (hs : List (List Nat)) (w : World) (hr : RH w w.heap.size A n hs) (ha : a < n) (hn : (n : Int) ≤ 100000) (ht : TabAt w) :
    Calls Tryd.prog 11 #[.slice A n c, .int .i64 (a : Int)] w fun e w' => ∃ v' k, e = .returned (.tuple #[v', .int .i64 0]) ∧ w'.ownsRow w.heap.size 23 32 v' k (flatH (brs hs a k)) ∧ (∀ i, i < k → 1 < (rowK hs i).length) ∧ (rowK hs k).length ≤ 1 ∧ k ≤ n ∧ Below w.heap.size w w' := by
  have HL := Lib.hid hr.len
  have HI := Lib.hid hr.is_
  have HT := Lib.hid ht
  have HAT := Lib.hid (rowK_at hs a (by rw [hr.len]; exact ha))
  have hd0 : decide ((a : Int) < 0) = false := decide_eq_false (by omega)
  have hd0' : ¬ (a : Int) < 0 := by omega
  have hd1 : decide ((n : Int) ≤ (a : Int)) = false := decide_eq_false (by omega)
  have hd1' : ¬ (n : Int) ≤ (a : Int) := by omega
  have hd2 : ¬ n ≤ a := by omega
  clear ht
  go_enter Tryd.func11, Tryd.ntmps11
  go_wp2_with fail
  go_loopg [1, 6, 7] n (fun kk av br row wr => ∃ (k b L : Nat) (A' : Option Addr) (c' : Nat), kk = L ∧ L = (rowK hs k).length ∧ Hid (k + L ≤ n ∨ k = 0) ∧ av = .int .i64 (b : Int) ∧ Hid (b = a / 2 ^ k) ∧ row = .slice A' L c' ∧ RH wr wr.heap.size A' L (rowK hs k) ∧ (∀ g off, A' = some ⟨g, off, none⟩ → 0 < L → some g ≠ br.ownBlock) ∧ wr.ownsRow w.heap.size 23 32 br k (flatH (brs hs a k)) ∧ Hid (∀ i, i < k → 1 < (rowK hs i).length) ∧ Below w.heap.size w wr)
  case atStart => exact ⟨0, a, n, A, c, rfl, hr.len.symm, Lib.hid (Or.inr rfl), rfl, Lib.hid (by simp), rfl, hr, fun g off e h0 e' => by simp [Value.ownBlock] at e', World.ownsRow_nil _ _ _ _, Lib.hid (by intro i hi; omega), Below.refl _ _⟩
  case round =>
    obtain ⟨k, b, L, A', c', hk, hLe, HKN, rfl, HB, rfl, hr1, hn1, ho, HLT, hb⟩ := hrel
    have HK := Lib.hid hk
    have HLe := Lib.hid hLe
    have HRI := Lib.hid (rowK_is hs HI.out k)
    have hbL : b < L := by rw [HB.out, hLe]; exact HAT.out k
    have hLn : L ≤ n := by
      rcases HKN.out with h | h
      · omega
      · subst h; rw [hLe]; exact Nat.le_of_eq HL.out
    have hkn : k ≤ n := by rcases HKN.out with h | h <;> omega
    clear hk hLe
    by_cases h1 : 1 < L
    · have h1' : (1 : Int) < (L : Int) := by omega
      have hol := oth_lt L b (by omega)
      obtain ⟨g, off, rfl, hg, hx1⟩ := hr1.elem (oth L b) hol
      have HYI := Lib.hid (hr1.isAt (oth L b) hol)
      have HBR : Hid (brs hs a (k + 1) = brs hs a k ++ [(rowK hs k).getD (oth L b) []]) := Lib.hid (by rw [brs, HB.out, HLe.out])
      have HOT := Lib.hid (other_any (some ⟨g, off, none⟩) L c' b wr (by omega) (by omega) (by omega))
      obtain ⟨y, hy⟩ : ∃ y, oth L b = y := ⟨_, rfl⟩
      rw [hy] at hol hx1 HYI HBR HOT
      have hyL : (y : Int) < (L : Int) := by omega
      generalize (rowK hs k).getD y [] = Y at *
      have HX1 := Lib.hid hx1
      have HSY := Lib.hid (sizeH Y HYI.out)
      obtain ⟨v3, w3, hrun, ho3, hg3, hown3⟩ := app_hash wr w.heap.size u6 k (brs hs a k) ho Y HYI.out (by omega) hb.size
      have hB3 : Below w.heap.size w w3 := hb.grown hg3 hb.size (fun q hq => (ho.lt q hq).1)
      have hr3 := hr1.grown hg3 hn1
      have hn3 : ∀ g' off', (some ⟨g, off, none⟩ : Option Addr) = some ⟨g', off', none⟩ → 0 < L → some g' ≠ v3.ownBlock := by
        intro g' off' e h0 e'
        rcases hown3 with e1 | e1
        · exact hn1 g' off' e h0 (e'.trans e1)
        · have := e1 g' e'.symm
          injection e with e
          injection e with e e2
          omega
      rw [← HBR.out] at ho3
      have HRUN := Lib.hid hrun
      have HO3 := Lib.hid ho3
      have HN3 := Lib.hid hn3
      have HAB := Lib.hid (above_any (some ⟨g, off, none⟩) L c' (rowK hs k) w3 hr3 (by omega) (by omega) (HT.out.below hB3 HT.out.1))
      have HRL := Lib.hid hr1.len
      clear hx1 hrun ho3 hg3 hown3 ho hr1 hn1 hn3 hr3 hy
      go_wp2_with fail
      refine HOT.out.mono ?_
      rintro e wq ⟨rfl, rfl⟩
      go_wp2_with (first
        | (refine wpList_load_mid rfl 23 (.tmp 27) rfl g (off + y * 32) rfl (bys Y) _ HX1.out Tryd.underlying23 rfl HSY.out ?_)
        | (refine arm_build1 39 (.tmp 28) (v' := ?_) (w' := ?_) ?hr ?_; case hr => exact lit_hash wr Y HYI.out #[(0, .agg (bys Y).toArray)] rfl)
        | (refine arm_append 39 (.tmp 22) (.tmp 29) (v' := ?_) (w' := ?_) ?hr2 ?_; case hr2 => exact HRUN.out))
      refine HAB.out.mono ?_
      rintro e w4 ⟨v4, rfl, ho4, hb4⟩
      have hB4 := hB3.trans (hb4.mono hB3.size)
      have ho5 := ownN_below HO3.out hb4 (fun q hq => (HO3.out.lt q hq).2)
      have hlt4 := ho4.lt
      have hlt3 := HO3.out.lt
      obtain ⟨A4, c4, rfl, _, _, hr4⟩ := own_RH ho4 (by rw [abv_len, HRL.out]) (abv_is _)
      have HR4 := Lib.hid hr4
      have HN4 : Hid (∀ g' off', A4 = some ⟨g', off', none⟩ → 0 < (L + 1) / 2 → some g' ≠ v3.ownBlock) := Lib.hid (by
        intro g' off' e h0 e'
        have h2 := (hlt4 g' (by rw [e]; rfl)).1
        have h3 := (hlt3 g' e'.symm).2
        omega)
      have HO5 := Lib.hid ho5
      have HL2 : Hid ((L + 1) / 2 = (rowK hs (k + 1)).length) := Lib.hid (by show _ = (abv (rowK hs k)).length; rw [abv_len, ← HLe.out])
      clear ho4 hr4 ho5 hlt4 hlt3 hb4
      go_wp2_with fail
      go_roundg ((L + 1) / 2)
      case measure => have := HK.out; omega
      case rel => exact ⟨k + 1, b / 2, (L + 1) / 2, A4, c4, rfl, HL2.out, Lib.hid (Or.inl (by rcases HKN.out with h | h <;> omega)), by go_num, Lib.hid (by rw [HB.out, Nat.pow_succ, Nat.div_div_eq_div_mul]), rfl, HR4.out, HN4.out, HO5.out, Lib.hid (by
        intro i hi
        by_cases h : i < k
        · exact HLT.out i h
        · obtain rfl : i = k := by omega
          rw [← HLe.out]; exact h1), hB4⟩
    · have hdec : decide ((1 : Int) < (L : Int)) = false := by simp; omega
      have hnl : ¬ 1 < L := h1
      have hnl' : ¬ (1 : Int) < (L : Int) := by omega
      go_wp2_with fail
      go_ret2
      exact ⟨_, rfl, k, ho, HLT.out, by rw [← HLe.out]; omega, hkn, hb⟩
end Go.Proofs.YtkokbpifjpmhlaaDoor
