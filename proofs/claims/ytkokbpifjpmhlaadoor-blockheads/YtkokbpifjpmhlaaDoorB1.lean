/- Digests in a row; the row above; roots. -/
import Derived.Test.YtkokbpifjpmhlaaDoorRowN
import Derived.Test.YtkokbpifjpmhlaaDoorD9
import Derived.Laws.BitsAllLaws
import Derived.Deep.Cut
namespace Go.Proofs.YtkokbpifjpmhlaaDoor
set_option linter.unusedSimpArgs false
set_option linter.unusedVariables false
open Go.RowKit

/-- A digest. -/
def IsH (h : List Nat) : Prop := h.length = 32 ∧ ∀ c ∈ h, c < 256
def HZ : List Nat := List.replicate 32 0
theorem HZ_is : IsH HZ := ⟨by simp [HZ], fun c hc => by simp [HZ] at hc; omega⟩
theorem bys_HZ : (bys HZ).toArray = ZH := by rfl
def flatH (hs : List (List Nat)) : List Value := hs.flatMap bys
theorem flatH_len (hs : List (List Nat)) (h : ∀ x ∈ hs, IsH x) : (flatH hs).length = hs.length * 32 := by
  induction hs with
  | nil => rfl
  | cons t r ih =>
    have e : flatH (t :: r) = bys t ++ flatH r := by simp [flatH]
    rw [e, List.length_append, ih (fun x hx => h x (by simp [hx])), bys_len, (h t (by simp)).1, List.length_cons]
    omega
theorem flatH_app (a b : List (List Nat)) : flatH (a ++ b) = flatH a ++ flatH b := by simp [flatH]
theorem flatH_one (hs : List (List Nat)) : ∀ u ∈ flatH hs, u.oneCell' = true := by
  intro u hu
  simp only [flatH, List.mem_flatMap] at hu
  obtain ⟨t, _, hu⟩ := hu
  exact bys_one t u hu
theorem flatH_at (hs : List (List Nat)) (h : ∀ x ∈ hs, IsH x) (i : Nat) (hi : i < hs.length) : ((flatH hs).drop (i * 32)).take 32 = bys hs[i] := by
  induction hs generalizing i with
  | nil => simp at hi
  | cons t r ih =>
    have e : flatH (t :: r) = bys t ++ flatH r := by simp [flatH]
    have hl : (bys t).length = 32 := by rw [bys_len]; exact (h t (by simp)).1
    rw [e]
    cases i with
    | zero => simp [hl]
    | succ i =>
      rw [show (i + 1) * 32 = (bys t).length + i * 32 by omega, List.drop_append, List.drop_eq_nil_of_le (by omega), List.nil_append, show (bys t).length + i * 32 - (bys t).length = i * 32 by omega]
      exact ih (fun x hx => h x (by simp [hx])) i (by simpa using hi)
theorem flatH_sub (hs : List (List Nat)) : ∀ l ∈ hs.map bys, ∃ x ∈ hs, l = bys x := by
  intro l hl
  obtain ⟨x, hx, rfl⟩ := List.mem_map.1 hl
  exact ⟨x, hx, rfl⟩
/-- A slice of digests that is read. -/
structure RH (w : World) (B : Nat) (A : Option Addr) (n : Nat) (hs : List (List Nat)) : Prop where
  len : hs.length = n
  is_ : ∀ x ∈ hs, IsH x
  rd : RdN w B 32 A n (flatH hs)
theorem RH.below {w w' : World} {B : Nat} {A : Option Addr} {n : Nat} {hs : List (List Nat)} (h : RH w B A n hs) (hb : Below B w w') : RH w' B A n hs := ⟨h.len, h.is_, h.rd.below hb⟩
theorem RH.up {w : World} {B B' : Nat} {A : Option Addr} {n : Nat} {hs : List (List Nat)} (h : RH w B A n hs) (hB : B ≤ B') : RH w B' A n hs := ⟨h.len, h.is_, h.rd.up hB⟩
theorem RH.elem {w : World} {B : Nat} {A : Option Addr} {n : Nat} {hs : List (List Nat)} (h : RH w B A n hs) (i : Nat) (hi : i < n) : ∃ g off, A = some ⟨g, off, none⟩ ∧ g < B ∧ w.rangeAt g (off + i * 32) (bys (hs.getD i [])) := by
  obtain ⟨g, off, e, hg, hr⟩ := h.rd.elem i hi
  have hil : i < hs.length := by rw [h.len]; exact hi
  rw [flatH_at hs h.is_ i hil] at hr
  refine ⟨g, off, e, hg, ?_⟩
  rw [List.getD_eq_getElem?_getD, List.getElem?_eq_getElem hil]
  exact hr
theorem RH.isAt {w : World} {B : Nat} {A : Option Addr} {n : Nat} {hs : List (List Nat)} (h : RH w B A n hs) (i : Nat) (hi : i < n) : IsH (hs.getD i []) := by
  have hil : i < hs.length := by rw [h.len]; exact hi
  rw [List.getD_eq_getElem?_getD, List.getElem?_eq_getElem hil]
  exact h.is_ _ (List.getElem_mem hil)

/-- The pair of two. -/
def pr (x y : List Nat) : List Nat := dg (dg (x ++ y))
theorem pr_is (x y : List Nat) : IsH (pr x y) := ⟨dg_len _, dg_lt _⟩
/-- The row above. -/
def ups (hs : List (List Nat)) (k : Nat) : List (List Nat) := (List.range k).map fun k => pr (hs.getD (2 * k) []) (hs.getD (min (2 * k + 1) (hs.length - 1)) [])
def abv (hs : List (List Nat)) : List (List Nat) := ups hs ((hs.length + 1) / 2)
theorem ups_succ (hs : List (List Nat)) (k : Nat) : ups hs (k + 1) = ups hs k ++ [pr (hs.getD (2 * k) []) (hs.getD (min (2 * k + 1) (hs.length - 1)) [])] := by
  simp [ups, List.range_succ]
theorem ups_len (hs : List (List Nat)) (k : Nat) : (ups hs k).length = k := by simp [ups]
theorem ups_is (hs : List (List Nat)) (k : Nat) : ∀ x ∈ ups hs k, IsH x := by
  intro x hx
  simp only [ups, List.mem_map] at hx
  obtain ⟨_, _, rfl⟩ := hx
  exact pr_is _ _
theorem abv_len (hs : List (List Nat)) : (abv hs).length = (hs.length + 1) / 2 := ups_len _ _
theorem abv_is (hs : List (List Nat)) : ∀ x ∈ abv hs, IsH x := ups_is _ _
theorem abv_at (hs : List (List Nat)) (k : Nat) (h : k < (hs.length + 1) / 2) : (abv hs).getD k [] = pr (hs.getD (2 * k) []) (hs.getD (min (2 * k + 1) (hs.length - 1)) []) := by
  simp [abv, ups, List.getD, h]
/-- The root; by rows. -/
def rootF : Nat → List (List Nat) → List Nat
  | 0, hs => hs.getD 0 []
  | f + 1, hs => if hs.length ≤ 1 then hs.getD 0 [] else rootF f (abv hs)
def root (hs : List (List Nat)) : List Nat := if hs.length = 0 then HZ else rootF hs.length hs
theorem rootF_more : ∀ (f g : Nat) (hs : List (List Nat)), hs.length ≤ f + 1 → f ≤ g → rootF g hs = rootF f hs
  | 0, 0, hs, _, _ => rfl
  | 0, g + 1, hs, h, _ => by
    rw [show rootF (g + 1) hs = if hs.length ≤ 1 then hs.getD 0 [] else rootF g (abv hs) from rfl, if_pos (by omega)]
    rfl
  | f + 1, 0, hs, _, h => by omega
  | f + 1, g + 1, hs, h, hg => by
    rw [rootF, rootF]
    split
    · rfl
    · exact rootF_more f g (abv hs) (by rw [abv_len]; omega) (by omega)
theorem root_one (hs : List (List Nat)) (h : hs.length = 1) : root hs = hs.getD 0 [] := by
  rw [root, if_neg (by omega), h, rootF, if_pos (by omega)]
theorem root_up (hs : List (List Nat)) (h : 1 < hs.length) : root hs = root (abv hs) := by
  have hl := abv_len hs
  rw [root, if_neg (by omega), root, if_neg (by omega)]
  obtain ⟨f, hf⟩ : ∃ f, hs.length = f + 1 := ⟨hs.length - 1, by omega⟩
  rw [hf, rootF, if_neg (by omega)]
  exact rootF_more _ _ _ (by omega) (by omega)

theorem i64_and1 (n : Int) : bits .and .i64 n 1 = n % 2 := by
  have h63 : (BitVec.ofInt 64 1).toNat = 2 ^ 1 - 1 := by decide
  have key : (BitVec.ofInt 64 n &&& BitVec.ofInt 64 1).toNat = (n % ((2 ^ 64 : Nat) : Int)).toNat % 2 ^ 1 := by
    rw [BitVec.toNat_and, BitVec.toNat_ofInt, h63, Nat.and_two_pow_sub_one_eq_mod]
  show IntKind.i64.wrap ((BitVec.ofInt 64 n &&& BitVec.ofInt 64 1).toNat : Nat) = n % 2
  rw [key, IntKind.wrap_i64]
  omega
theorem nat_xor1 (x : Nat) : x ^^^ 1 = if x % 2 = 0 then x + 1 else x - 1 := by
  have h1 : (x ^^^ 1) % 2 = (x % 2 + 1) % 2 := by
    have := Nat.xor_mod_two_pow (a := x) (b := 1) (n := 1)
    rw [show (2 ^ 1 : Nat) = 2 from rfl] at this
    rw [this]
    rcases Nat.mod_two_eq_zero_or_one x with h | h <;> rw [h] <;> rfl
  have h2 : (x ^^^ 1) / 2 = x / 2 := by
    have := Nat.xor_div_two_pow (a := x) (b := 1) (n := 1)
    rw [show (2 ^ 1 : Nat) = 2 from rfl] at this
    rw [this]; simp
  split <;> omega
theorem i64_xor1 (x : Nat) (h : x < 1000000000) : bits .xor .i64 (x : Int) 1 = ((x ^^^ 1 : Nat) : Int) := by
  have hx : (BitVec.ofInt 64 (x : Int)).toNat = x := by rw [BitVec.toNat_ofInt]; omega
  have h1 : (BitVec.ofInt 64 1).toNat = 1 := by decide
  have hl : x ^^^ 1 ≤ x + 1 := by rw [nat_xor1]; split <;> omega
  show IntKind.i64.wrap ((BitVec.ofInt 64 (x : Int) ^^^ BitVec.ofInt 64 1).toNat : Nat) = _
  rw [BitVec.toNat_xor, hx, h1, IntKind.wrap_i64]
  omega
/-- The other of a pair. -/
def oth (n at_ : Nat) : Nat := min (at_ ^^^ 1) (n - 1)
theorem oth_lt (n at_ : Nat) (h : 0 < n) : oth n at_ < n := by unfold oth; omega
theorem oth_even (n k : Nat) : oth n (2 * k) = min (2 * k + 1) (n - 1) := by unfold oth; rw [nat_xor1, if_pos (by omega)]

set_option maxHeartbeats 1000000 in
theorem other_any (A : Option Addr) (n c at_ : Nat) (w : World) (h0 : 0 < n) (hn : (n : Int) ≤ 100000000) (ha : (at_ : Int) ≤ 100000000) :
    Calls Tryd.prog 22 #[.slice A n c, .int .i64 (at_ : Int)] w fun e w' => e = .returned (.int .i64 (oth n at_ : Int)) ∧ w = w' := by
  obtain ⟨X, hX⟩ : ∃ X : Nat, at_ ^^^ 1 = X := ⟨_, rfl⟩
  have hb := i64_xor1 at_ (by omega)
  rw [hX] at hb
  have HE : Hid (oth n at_ = min X (n - 1)) := Lib.hid (by rw [oth, hX])
  rw [HE.out]
  by_cases hle : (X : Int) ≤ (n : Int) - 1
  · have e : ((min X (n - 1) : Nat) : Int) = (X : Int) := by omega
    rw [e]
    clear e
    go_enter Tryd.func22, Tryd.ntmps22
    go_wp2_with fail
    go_ret
    exact ⟨rfl, rfl⟩
  · have e : ((min X (n - 1) : Nat) : Int) = (n : Int) - 1 := by omega
    have hle' : (n : Int) - 1 < (X : Int) := by omega
    rw [e]
    clear e
    go_enter Tryd.func22, Tryd.ntmps22
    go_wp2_with fail
    go_ret
    exact ⟨rfl, rfl⟩
end Go.Proofs.YtkokbpifjpmhlaaDoor
