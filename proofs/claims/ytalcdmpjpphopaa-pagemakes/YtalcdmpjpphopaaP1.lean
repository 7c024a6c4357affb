/- Walks: alike, ahead. -/
import Derived.Test.YtalcdmpjpphopaaP0
import Derived.Test.YtalcdmpjpphopaaAppS
import Derived.Test.YtalcdmpjpphopaaConv
import Derived.Test.YtalcdmpjpphopaaOpenG
import Derived.BigQuiet
import Derived.Deep.QuietTactic
import Derived.Deep.DeepCutAuto
import Derived.Deep.LoopGhost
namespace Go.Proofs.Ytalcdmpjpphopaa
set_option linter.unusedSimpArgs false
set_option linter.unusedVariables false
open Go.RowKit

theorem below_drewN (w : World) (n : Nat) : Below w.heap.size w (w.drewN n) := ⟨rfl, rfl, rfl, Nat.le_refl _, fun _ _ => rfl⟩
theorem alk_step (a b : List Nat) : ∀ j, j ≤ alk a b → alk a b = j + alk (a.drop j) (b.drop j)
  | 0, _ => by simp
  | j + 1, h => by
    have h1 := alk_step a b j (by omega)
    have hla := alk_le (a.drop j) (b.drop j)
    have h2 : 0 < alk (a.drop j) (b.drop j) := by omega
    cases ha : a.drop j with
    | nil => rw [ha] at h2; simp [alk] at h2
    | cons x r =>
      cases hb : b.drop j with
      | nil => rw [hb] at h2; cases r <;> simp [alk] at h2
      | cons y t =>
        rw [ha, hb] at h1 h2
        have e1 : a.drop (j + 1) = r := by rw [← List.drop_drop, ha]; rfl
        have e2 : b.drop (j + 1) = t := by rw [← List.drop_drop, hb]; rfl
        rw [e1, e2]
        rw [alk] at h1 h2
        split at h1
        · omega
        · next hne => rw [if_neg hne] at h2; omega
theorem drop_at (a : List Nat) (j : Nat) (h : j < a.length) : a.drop j = a.getD j 0 :: a.drop (j + 1) := by
  rw [List.drop_eq_getElem_cons h]; simp [List.getD, h]

set_option maxHeartbeats 1000000 in
set_option maxRecDepth 100000 in
theorem alike_any (a b : List Nat) (ha : ∀ x ∈ a, x < 256) (hb : ∀ x ∈ b, x < 256) (hla : (a.length : Int) ≤ 1000000000) (hlb : (b.length : Int) ≤ 1000000000) (w : World) :
    Calls Try.prog 38 #[.string (strB a), .string (strB b)] w fun e w' => e = .returned (.int .i64 ((alk a b : Nat) : Int)) ∧ Below w.heap.size w w' := by
  have hsa : (strB a).size = a.length := strB_size a
  have hsb : (strB b).size = b.length := strB_size b
  have HLE := Lib.hid (alk_le a b)
  have HST := Lib.hid (alk_step a b)
  generalize hK : alk a b = K at *
  have HKE := Lib.hid hK
  clear hK
  go_enter Try.func38, Try.ntmps38
  go_upto_region 2 with fail
  go_loopg [5] (K + 1) (fun kx v5 wr => ∃ j : Nat, j ≤ K ∧ kx = K + 1 - j ∧ v5 = .int .i64 (j : Int) ∧ Hid (Below w.heap.size w wr))
  case atStart => exact ⟨0, Nat.zero_le _, rfl, rfl, Lib.hid (Below.refl _ _)⟩
  case round =>
    obtain ⟨j, hj, hkx, rfl, HW⟩ := hrel
    have HX := Lib.hid hkx
    clear hkx
    have hle := HLE.out
    have hst := HST.out j hj
    by_cases h1 : j < a.length
    · have h1' : (j : Int) < (a.length : Int) := by omega
      by_cases h2 : j < b.length
      · have h2' : (j : Int) < (b.length : Int) := by omega
        have hja : j < (strB a).size := by rw [hsa]; exact h1
        have hjb : j < (strB b).size := by rw [hsb]; exact h2
        have hxa := strB_at a ha j hja
        have hxb := strB_at b hb j hjb
        rw [drop_at a j h1, drop_at b j h2, alk] at hst
        have hca := getD_lt ha j
        have hcb := getD_lt hb j
        generalize a.getD j 0 = x at *
        generalize b.getD j 0 = y at *
        by_cases he : x = y
        · subst he
          rw [if_pos rfl] at hst
          have hjK : j + 1 ≤ K := by omega
          clear hst hle
          go_upto_region 2 with fail
          go_quiet (fail)
          go_wp2
          go_roundg (K + 1 - (j + 1))
          case measure => have := HX.out; omega
          case rel => exact ⟨j + 1, hjK, rfl, by go_num, Lib.hid (HW.out.trans ((below_drewN _ _).mono HW.out.size))⟩
        · rw [if_neg he] at hst
          have hjK : j = K := by omega
          subst hjK
          have hne : ((x : Int) == (y : Int)) = false := by simp; omega
          clear hst hle
          go_upto_region 2 with fail
          go_quiet (fail)
          go_wp2
          go_ret
          exact ⟨rfl, HW.out.trans ((below_drewN _ _).mono HW.out.size)⟩
      · have h2' : (b.length : Int) ≤ (j : Int) := by omega
        have h2d : decide ((j : Int) < (b.length : Int)) = false := by simp; omega
        have hjK : j = K := by omega
        subst hjK
        clear hst hle
        go_upto_region 2 with fail
        go_quiet (fail)
        go_wp2
        go_ret
        exact ⟨rfl, HW.out.trans ((below_drewN _ _).mono HW.out.size)⟩
    · have h1' : (a.length : Int) ≤ (j : Int) := by omega
      have h1d : decide ((j : Int) < (a.length : Int)) = false := by simp; omega
      have hjK : j = K := by omega
      subst hjK
      clear hst hle
      go_upto_region 2 with fail
      go_quiet (fail)
      go_wp2
      go_ret
      exact ⟨rfl, HW.out.trans ((below_drewN _ _).mono HW.out.size)⟩

/-- Pairs as cells. -/
def prC (p : Pr) : List Value := [.string (strB p.1), .string (strB p.2)]
def prC2 : List Pr → List Value
  | [] => []
  | p :: r => prC p ++ prC2 r
theorem prC2_len : ∀ L, (prC2 L).length = L.length * 2
  | [] => rfl
  | p :: r => by rw [prC2, List.length_append, prC2_len r, List.length_cons]; simp [prC]; omega
theorem prC2_app : ∀ L M', prC2 (L ++ M') = prC2 L ++ prC2 M'
  | [], _ => rfl
  | p :: r, M' => by rw [List.cons_append, prC2, prC2_app r M', prC2, List.append_assoc]
theorem prC2_get : ∀ (L : List Pr) (i : Nat) (p : Pr), L[i]? = some p → (prC2 L)[i * 2]? = some (.string (strB p.1)) ∧ (prC2 L)[i * 2 + 1]? = some (.string (strB p.2))
  | [], i, p, h => by simp at h
  | q :: r, 0, p, h => by simp at h; subst h; exact ⟨rfl, rfl⟩
  | q :: r, i + 1, p, h => by
    have := prC2_get r i p (by simpa using h)
    have e1 : (i + 1) * 2 = i * 2 + 1 + 1 := by omega
    rw [prC2, prC, e1]
    simpa using this
theorem prC2_one (L : List Pr) : ∀ u ∈ prC2 L, u.oneCell' = true := by
  induction L with
  | nil => intro u hu; cases hu
  | cons p r ih =>
    intro u hu
    rw [prC2, List.mem_append] at hu
    rcases hu with hu | hu
    · simp [prC] at hu
      rcases hu with rfl | rfl <;> rfl
    · exact ih u hu
/-- Entry i, cell by cell. -/
theorem RdN.pr {w : World} {B : Nat} {A : Option Addr} {L : List Pr} (h : RdN w B 2 A L.length (prC2 L)) (i : Nat) (p : Pr) (hp : L[i]? = some p) :
    ∃ g off, A = some ⟨g, off, none⟩ ∧ g < B ∧ w.cell? ⟨g, off + i * 2, none⟩ = some (.string (strB p.1)) ∧ w.cell? ⟨g, off + i * 2 + 1, none⟩ = some (.string (strB p.2)) := by
  have hi := (List.getElem?_eq_some_iff.1 hp).1
  obtain ⟨g, off, e, hg, hc⟩ := h.at_ (by omega)
  obtain ⟨e1, e2⟩ := prC2_get L i p hp
  exact ⟨g, off, e, hg, hc _ _ e1, by have := hc _ _ e2; rwa [← Nat.add_assoc] at this⟩

set_option maxHeartbeats 400000 in
theorem ahead_any (A : Option Addr) (c : Nat) (L : List Pr) (w : World) (hr : RdN w w.heap.size 2 A L.length (prC2 L)) (i : Nat) (prev : List Nat) (hi : i ≤ L.length) (hl : (L.length : Int) ≤ 1000000000) (hp : 0 < i → ∃ p, L[i - 1]? = some p ∧ p.1 = prev) :
    Calls Try.prog 24 #[.slice A L.length c, .int .i64 (i : Int)] w fun e w' => e = .returned (.string (strB (ahd i prev))) ∧ w = w' := by
  by_cases h8 : i % 8 = 0
  · have e : ahd i prev = [] := if_pos h8
    have e2 : strB [] = { data := #[] } := rfl
    rw [e, e2]
    have h8' : (i : Int) % 8 = 0 := by omega
    clear h8 e
    generalize L.length = n at *
    go_enter Try.func24, Try.ntmps24
    go_wp2
    go_ret
    exact ⟨rfl, rfl⟩
  · have e : ahd i prev = prev := if_neg h8
    rw [e]
    obtain ⟨p, hp1, hp2⟩ := hp (by omega)
    obtain ⟨g, off, rfl, _, c0, _⟩ := hr.pr (i - 1) p hp1
    rw [hp2] at c0
    have h8' : ((i : Int) % 8 == 0) = false := by simp; omega
    obtain ⟨q, rfl⟩ : ∃ q, i = q + 1 := ⟨i - 1, by omega⟩
    have hq : ((q + 1 : Nat) : Int) - 1 = (q : Int) := by omega
    rw [Nat.add_sub_cancel] at c0
    have hlt : (q : Int) < (L.length : Int) := by omega
    clear h8 e hp1 hp2 hr hp
    generalize L.length = n at *
    generalize hi2 : ((q + 1 : Nat) : Int) = I at *
    have h8a : 0 ≤ I := by omega
    clear hi2
    go_enter Try.func24, Try.ntmps24
    go_wp2
    go_ret
    exact ⟨rfl, rfl⟩
end Go.Proofs.Ytalcdmpjpphopaa
