/- Readers on the front of what they read: cut short, each tells that there are too few bytes. -/
import Derived.Test.YtkdkihacpjhgmaaYA
namespace Go.Proofs.Ytkdkihacpjhgmaa
set_option linter.unusedSimpArgs false
set_option linter.unusedVariables false
open Go.RowKit

theorem comp_facts (X : Nat) (h1 : (X : Int) ≤ 18446744073709551615) (bs : List Nat) :
    M.xe (M.compB X ++ bs) = 0 ∧ M.xk (M.compB X ++ bs) = 1 + M.cs X ∧ M.xnum (M.compB X ++ bs) = X := by
  have hl := M.compB_len X
  have h0 : (M.compB X ++ bs).getD 0 0 = M.sg X := rfl
  have hdrop : (M.compB X ++ bs).drop 1 = M.leB X (M.cs X) ++ bs := rfl
  have hxs : M.xs (M.sg X) = M.cs X := by
    unfold M.xs M.sg M.cs
    by_cases c1 : X < 253
    · rw [if_pos c1, if_pos c1, if_neg (by omega), if_neg (by omega), if_neg (by omega)]
    · by_cases c2 : X ≤ 65535
      · rw [if_neg c1, if_neg c1, if_pos c2, if_pos c2]; rfl
      · by_cases c3 : X ≤ 4294967295
        · rw [if_neg c1, if_neg c1, if_neg c2, if_neg c2, if_pos c3, if_pos c3]; rfl
        · rw [if_neg c1, if_neg c1, if_neg c2, if_neg c2, if_neg c3, if_neg c3]; rfl
  have hlt : M.cs X ≠ 0 → X < 256 ^ M.cs X ∧ M.xl (M.sg X) ≤ X := by
    unfold M.cs M.xl M.sg
    by_cases c1 : X < 253
    · rw [if_pos c1]; intro h; exact absurd rfl h
    · by_cases c2 : X ≤ 65535
      · rw [if_neg c1, if_neg c1, if_pos c2, if_pos c2]; intro _; simp; omega
      · by_cases c3 : X ≤ 4294967295
        · rw [if_neg c1, if_neg c1, if_neg c2, if_neg c2, if_pos c3, if_pos c3]; intro _; simp; omega
        · rw [if_neg c1, if_neg c1, if_neg c2, if_neg c2, if_neg c3, if_neg c3]; intro _; simp; omega
  have hsg : M.cs X = 0 → M.sg X = X := by
    unfold M.cs M.sg
    by_cases c1 : X < 253
    · rw [if_pos c1, if_pos c1]; intro _; rfl
    · by_cases c2 : X ≤ 65535
      · rw [if_neg c1, if_pos c2]; intro h; cases h
      · by_cases c3 : X ≤ 4294967295
        · rw [if_neg c1, if_neg c2, if_pos c3]; intro h; cases h
        · rw [if_neg c1, if_neg c2, if_neg c3]; intro h; cases h
  have hxn : M.xn (M.compB X ++ bs) = X := by
    unfold M.xn
    rw [h0, hxs, hdrop]
    by_cases hz : M.cs X = 0
    · rw [if_pos hz]; exact hsg hz
    · rw [if_neg hz, M.lv_leB]; exact Nat.mod_eq_of_lt (hlt hz).1
  have he : M.xe (M.compB X ++ bs) = 0 := by
    unfold M.xe
    rw [h0, hxs, hxn, if_neg (by rw [List.length_append, hl]; omega), if_neg]
    rintro ⟨hz, h2⟩
    have := (hlt hz).2
    omega
  refine ⟨he, ?_, ?_⟩
  · unfold M.xk; rw [if_pos he, h0, hxs]
  · unfold M.xnum; rw [if_pos he, hxn]
theorem comp_cut (X : Nat) (h1 : (X : Int) ≤ 18446744073709551615) (k : Nat) (hk : k < (M.compB X).length) : M.xe ((M.compB X).take k) = 8 := by
  have hl := M.compB_len X
  have h0 := (comp_facts X h1 []).1
  unfold M.xe
  refine if_pos ?_
  rw [List.length_take]
  cases k with
  | zero => simp only [Nat.zero_min]; omega
  | succ k =>
    have e1 : ((M.compB X).take (k + 1)).getD 0 0 = M.sg X := rfl
    rw [e1]
    have h2 := (comp_facts X h1 []).2.1
    rw [List.append_nil] at h0 h2
    unfold M.xk at h2
    rw [if_pos h0, show (M.compB X).getD 0 0 = M.sg X from rfl] at h2
    omega

theorem cut_app {u v : List Nat} {k : Nat} (h : k < (u ++ v).length) : (k < u.length ∧ (u ++ v).take k = u.take k) ∨ ∃ j, j < v.length ∧ (u ++ v).take k = u ++ v.take j := by
  by_cases hk : k < u.length
  · exact .inl ⟨hk, List.take_append_of_le_length (by omega)⟩
  · refine .inr ⟨k - u.length, by rw [List.length_append] at h; omega, ?_⟩
    rw [List.take_append, List.take_of_length_le (by omega)]
/-- f reads just u, whatever stands behind: v. -/
def Tot {α : Type} (f : TS → α × TS) (u : List Nat) (v : α) : Prop := ∀ r, f (u ++ r, 0) = (v, (r, 0))
/-- f tells too few bytes, where u is cut. -/
def Cut {α : Type} (f : TS → α × TS) (u : List Nat) : Prop := ∀ k, k < u.length → (f (u.take k, 0)).2.2 = 8
/-- An error stays. -/
def Stk {α : Type} (f : TS → α × TS) : Prop := ∀ s : TS, s.2 ≠ 0 → (f s).2 = s
theorem tk_stk (k : Nat) : Stk (fun s => tk s k) := fun s h => by simp only; rw [tk_bad _ _ h]
theorem tk_tot (u : List Nat) (k : Nat) (h : u.length = k) : Tot (fun s => tk s k) u u := fun r => by
  simp only
  rw [tk_good _ _ rfl (by rw [List.length_append]; omega), ← h, List.take_left, List.drop_left]
theorem tk_cut (u : List Nat) (k : Nat) (h : u.length = k) : Cut (fun s => tk s k) u := fun j hj => by
  show (tk (u.take j, 0) k).2.2 = 8
  unfold tk
  rw [if_neg (by simp), if_pos (by simp only [List.length_take]; omega)]
theorem rN_stk (k : Nat) : Stk (fun s => rN s k) := fun s h => tk_stk k s h
theorem rN_tot (X k : Nat) (hk : k ≤ 8) : Tot (fun s => rN s k) (M.leB X k) (X % 256 ^ k) := fun r => by
  have h := tk_tot (M.leB X k) k (M.leB_len X k) r
  simp only at h
  simp only [rN]
  rw [h]
  simp only
  rw [M.leB_len, Nat.min_eq_left hk]
  have := M.lv_leB X k []
  rw [List.append_nil] at this
  rw [this]
theorem rN_cut (X k : Nat) : Cut (fun s => rN s k) (M.leB X k) := fun j hj => tk_cut _ k (M.leB_len X k) j hj
theorem rH_stk : Stk rH := fun s h => tk_stk 32 s h
theorem rH_tot (u : List Nat) (h : u.length = 32) : Tot rH u u := fun r => by
  have h1 := tk_tot u 32 h r
  simp only at h1
  simp only [rH]
  rw [h1]
  simp [h]
theorem rH_cut (u : List Nat) (h : u.length = 32) : Cut rH u := fun j hj => tk_cut u 32 h j hj
theorem rC_bad (s : TS) (m : Nat) (h : s.2 ≠ 0) : rC s m = (0, s) := by unfold rC; rw [if_pos h]
theorem rC_stk (m : Nat) : Stk (fun s => rC s m) := fun s h => by simp only; rw [rC_bad s m h]
theorem rC_tot (X m : Nat) (h1 : (X : Int) ≤ 18446744073709551615) (hm : X ≤ m) : Tot (fun s => rC s m) (M.compB X) X := fun r => by
  obtain ⟨a, b, c⟩ := comp_facts X h1 r
  simp only [rC]
  rw [if_neg (by simp), a, if_neg (by simp), c, if_neg (by omega), b, ← M.compB_len, List.drop_left]
theorem rC_cut (X m : Nat) (h1 : (X : Int) ≤ 18446744073709551615) : Cut (fun s => rC s m) (M.compB X) := fun j hj => by
  simp only [rC]
  rw [if_neg (by simp), comp_cut X h1 j hj, if_pos (by simp)]
theorem rT_stk : Stk rT := fun s h => by
  unfold rT
  rw [rC_bad s 10000 h]
  exact tk_stk 0 s h
theorem rT_tot (s : List Nat) (h : s.length ≤ 10000) : Tot rT (txt s) s := fun r => by
  unfold rT txt
  rw [List.append_assoc]
  have h1 := rC_tot s.length 10000 (by omega) h (s ++ r)
  simp only at h1
  rw [h1]
  exact tk_tot s s.length rfl r
theorem rT_cut (s : List Nat) (h : s.length ≤ 10000) : Cut rT (txt s) := fun j hj => by
  unfold rT
  unfold txt at hj ⊢
  rcases cut_app hj with ⟨hk, e⟩ | ⟨i, hi, e⟩
  · rw [e]
    have h1 := rC_cut s.length 10000 (by omega) j hk
    simp only at h1
    have h2 : (rC ((M.compB s.length).take j, 0) 10000).2.2 ≠ 0 := by rw [h1]; simp
    rw [tk_stk _ _ h2, h1]
  · rw [e]
    have h1 := rC_tot s.length 10000 (by omega) h (s.take i)
    simp only at h1
    rw [h1]
    exact tk_cut s s.length rfl i hi
/-- One reader behind another. -/
theorem seq_stk {α β : Type} {f : TS → α × TS} {g : TS → β × TS} (hf : Stk f) (hg : Stk g) (s : TS) (h : s.2 ≠ 0) : (g (f s).2).2 = s := by rw [hf s h]; exact hg s h
theorem seq_cut {α β : Type} {f : TS → α × TS} {g : TS → β × TS} {u v : List Nat} {a : α} (hf : Cut f u) (ht : Tot f u a) (hs : Stk g) (hg : Cut g v) (k : Nat) (hk : k < (u ++ v).length) : (g (f ((u ++ v).take k, 0)).2).2.2 = 8 := by
  rcases cut_app hk with ⟨h1, e⟩ | ⟨i, hi, e⟩
  · rw [e]
    have h2 := hf k h1
    rw [hs _ (by rw [h2]; simp), h2]
  · rw [e, ht]
    exact hg i hi
theorem rIn_stk : Stk rIn := fun s h => by
  show (rN (rT (rN (rH s).2 4).2).2 4).2 = s
  have h1 := rH_stk s h
  have h2 := rN_stk 4 s h
  have h3 := rT_stk s h
  simp only at h2
  rw [h1, h2, h3, h2]
def bare (x : TIn) : TIn := { x with wit := [] }
structure TIn.small (x : TIn) : Prop where
  id : x.id.length = 32
  out : x.out < 4294967296
  sc : x.sc.length ≤ 10000
  seq : x.seq < 4294967296
  wl : x.wit.length ≤ 100
  wit : ∀ p ∈ x.wit, p.length ≤ 10000
theorem inB_is (x : TIn) : inB x = x.id ++ (M.leB x.out 4 ++ (txt x.sc ++ M.leB x.seq 4)) := by unfold inB; simp only [List.append_assoc]
theorem p4 : (256 : Nat) ^ 4 = 4294967296 := by decide
theorem rIn_tot (x : TIn) (h : x.small) : Tot rIn (inB x) (bare x) := fun r => by
  rw [inB_is]
  simp only [List.append_assoc]
  have h1 := rH_tot x.id h.id (M.leB x.out 4 ++ (txt x.sc ++ (M.leB x.seq 4 ++ r)))
  have h2 := rN_tot x.out 4 (by omega) (txt x.sc ++ (M.leB x.seq 4 ++ r))
  have h3 := rT_tot x.sc h.sc (M.leB x.seq 4 ++ r)
  have h4 := rN_tot x.seq 4 (by omega) r
  simp only at h2 h4
  have e1 : x.out % 256 ^ 4 = x.out := by rw [p4]; exact Nat.mod_eq_of_lt h.out
  have e2 : x.seq % 256 ^ 4 = x.seq := by rw [p4]; exact Nat.mod_eq_of_lt h.seq
  rw [e1] at h2
  rw [e2] at h4
  unfold rIn
  rw [h1, h2, h3, h4]
  rfl
theorem rIn_cut (x : TIn) (h : x.small) : Cut rIn (inB x) := fun k hk => by
  rw [inB_is] at hk ⊢
  show (rN (rT (rN (rH _).2 4).2).2 4).2.2 = 8
  exact seq_cut (f := rH) (g := fun s => rN (rT (rN s 4).2).2 4) (a := x.id) (rH_cut _ h.id) (rH_tot _ h.id) (fun s hs => by
      have h2 := rN_stk 4 s hs
      have h3 := rT_stk s hs
      simp only at h2 ⊢
      rw [h2, h3, h2]) (fun k hk => seq_cut (f := fun s => rN s 4) (g := fun s => rN (rT s).2 4) (rN_cut x.out 4) (rN_tot x.out 4 (by omega)) (fun s hs => by
      have h2 := rN_stk 4 s hs
      have h3 := rT_stk s hs
      simp only at h2 ⊢
      rw [h3, h2]) (fun k hk => seq_cut (f := rT) (g := fun s => rN s 4) (rT_cut x.sc h.sc) (rT_tot x.sc h.sc) (rN_stk 4) (rN_cut x.seq 4) k hk) k hk) k hk
theorem rOut_stk : Stk rOut := fun s h => by
  show (rT (rN s 8).2).2 = s
  have h2 := rN_stk 8 s h
  simp only at h2
  rw [h2, rT_stk s h]
theorem i64_uw (c : Int) (h0 : -9223372036854775808 ≤ c) (h1 : c ≤ 9223372036854775807) : IntKind.i64.wrap ((uw c % 256 ^ 8 : Nat) : Int) = c := by
  have e : (256 : Nat) ^ 8 = 18446744073709551616 := by decide
  rw [e, Nat.mod_eq_of_lt (uw_lt c), IntKind.wrap_i64]
  unfold uw
  omega
structure TOut.small (o : TOut) : Prop where
  c0 : -9223372036854775808 ≤ o.coins
  c1 : o.coins ≤ 9223372036854775807
  sc : o.sc.length ≤ 10000
theorem rOut_tot (o : TOut) (h : o.small) : Tot rOut (outB o) o := fun r => by
  unfold outB
  rw [List.append_assoc]
  have h2 := rN_tot (uw o.coins) 8 (by omega) (txt o.sc ++ r)
  have h3 := rT_tot o.sc h.sc r
  simp only at h2
  unfold rOut
  rw [h2]
  simp only
  rw [h3, i64_uw _ h.c0 h.c1]
theorem rOut_cut (o : TOut) (h : o.small) : Cut rOut (outB o) := fun k hk => by
  unfold outB at hk ⊢
  show (rT (rN _ 8).2).2.2 = 8
  exact seq_cut (f := fun s => rN s 8) (g := rT) (rN_cut _ 8) (rN_tot (uw o.coins) 8 (by omega)) rT_stk (rT_cut o.sc h.sc) k hk

/-- A row of readings. -/
def rL {α : Type} (f : TS → α × TS) : Nat → TS → List α → List α × TS
  | 0, s, L => (L, s)
  | n + 1, s, L => if s.2 ≠ 0 then (L, s) else rL f n (f s).2 (L ++ [(f s).1])
theorem rIns_rL : ∀ (n : Nat) (s : TS) (L : List TIn), rIns n s L = rL rIn n s L
  | 0, s, L => rfl
  | n + 1, s, L => by unfold rIns rL; split; rfl; exact rIns_rL n _ _
theorem rOuts_rL : ∀ (n : Nat) (s : TS) (L : List TOut), rOuts n s L = rL rOut n s L
  | 0, s, L => rfl
  | n + 1, s, L => by unfold rOuts rL; split; rfl; exact rOuts_rL n _ _
theorem rParts_rL : ∀ (n : Nat) (s : TS) (L : List (List Nat)), rParts n s L = rL rT n s L
  | 0, s, L => rfl
  | n + 1, s, L => by unfold rParts rL; split; rfl; exact rParts_rL n _ _
theorem rL_bad {α : Type} (f : TS → α × TS) (n : Nat) (s : TS) (L : List α) (h : s.2 ≠ 0) : rL f n s L = (L, s) := by
  cases n with
  | zero => rfl
  | succ n => rw [rL, if_pos h]
theorem rL_tot {α β : Type} (f : TS → α × TS) (g : β → List Nat) (v : β → α) : ∀ (l : List β) (acc : List α) (r : List Nat), (∀ x ∈ l, Tot f (g x) (v x)) → rL f l.length (l.flatMap g ++ r, 0) acc = (acc ++ l.map v, (r, 0))
  | [], acc, r, _ => by simp [rL]
  | x :: l, acc, r, h => by
    have h1 := h x (by simp) (l.flatMap g ++ r)
    rw [List.length_cons, rL, if_neg (by simp), List.flatMap_cons, List.append_assoc, h1, rL_tot f g v l _ r (fun y hy => h y (by simp [hy]))]
    simp
theorem rL_cut {α β : Type} (f : TS → α × TS) (g : β → List Nat) (v : β → α) : ∀ (l : List β) (acc : List α) (k : Nat), (∀ x ∈ l, Tot f (g x) (v x) ∧ Cut f (g x)) → k < (l.flatMap g).length → (rL f l.length ((l.flatMap g).take k, 0) acc).2.2 = 8
  | [], acc, k, _, hk => by simp at hk
  | x :: l, acc, k, h, hk => by
    rw [List.flatMap_cons] at hk ⊢
    rw [List.length_cons, rL, if_neg (by simp)]
    obtain ⟨h1, h2⟩ := h x (by simp)
    rcases cut_app hk with ⟨hk2, e⟩ | ⟨i, hi, e⟩
    · rw [e]
      have h3 := h2 k hk2
      rw [rL_bad f _ _ _ (by rw [h3]; simp), h3]
    · rw [e, h1]
      exact rL_cut f g v l _ i (fun y hy => h y (by simp [hy])) hi
theorem rP_stk : Stk rP := fun s h => by
  unfold rP
  rw [rC_bad s 100 h]
  rfl
theorem rP_tot (x : TIn) (h : x.small) : Tot rP (witB x) x.wit := fun r => by
  unfold rP witB
  rw [List.append_assoc]
  have h1 := rC_tot x.wit.length 100 (by have := h.wl; omega) h.wl (x.wit.flatMap txt ++ r)
  simp only at h1
  rw [h1, rParts_rL, rL_tot rT txt id x.wit [] r (fun p hp => rT_tot p (h.wit p hp))]
  simp
theorem rP_cut (x : TIn) (h : x.small) : Cut rP (witB x) := fun k hk => by
  unfold witB at hk ⊢
  unfold rP
  rcases cut_app hk with ⟨hk2, e⟩ | ⟨i, hi, e⟩
  · rw [e]
    have h1 := rC_cut x.wit.length 100 (by have := h.wl; omega) k hk2
    simp only at h1
    rw [rParts_rL, rL_bad _ _ _ _ (by rw [h1]; simp), h1]
  · rw [e]
    have h1 := rC_tot x.wit.length 100 (by have := h.wl; omega) h.wl ((x.wit.flatMap txt).take i)
    simp only at h1
    rw [h1, rParts_rL]
    exact rL_cut rT txt id x.wit [] i (fun p hp => ⟨rT_tot p (h.wit p hp), rT_cut p (h.wit p hp)⟩) hi
theorem rWits_bad : ∀ (l : List TIn) (s : TS), s.2 ≠ 0 → (rWits l s).2 = s
  | [], s, _ => rfl
  | x :: l, s, h => by
    rw [rWits, rP_stk s h]
    exact rWits_bad l s h
theorem rWits_tot : ∀ (l : List TIn) (r : List Nat), (∀ x ∈ l, x.small) → rWits (l.map bare) (l.flatMap witB ++ r, 0) = (l, (r, 0))
  | [], r, _ => rfl
  | x :: l, r, h => by
    have h1 := rP_tot x (h x (by simp)) (l.flatMap witB ++ r)
    rw [List.map_cons, rWits, List.flatMap_cons, List.append_assoc, h1]
    simp only
    rw [rWits_tot l r (fun y hy => h y (by simp [hy]))]
    rfl
theorem rWits_cut : ∀ (l : List TIn) (k : Nat), (∀ x ∈ l, x.small) → k < (l.flatMap witB).length → (rWits (l.map bare) ((l.flatMap witB).take k, 0)).2.2 = 8
  | [], k, _, hk => by simp at hk
  | x :: l, k, h, hk => by
    rw [List.flatMap_cons] at hk ⊢
    rw [List.map_cons, rWits]
    simp only
    rcases cut_app hk with ⟨hk2, e⟩ | ⟨i, hi, e⟩
    · rw [e]
      have h3 := rP_cut x (h x (by simp)) k hk2
      rw [rWits_bad _ _ (by rw [h3]; simp), h3]
    · rw [e, rP_tot x (h x (by simp))]
      exact rWits_cut l i (fun y hy => h y (by simp [hy])) hi
end Go.Proofs.Ytkdkihacpjhgmaa
