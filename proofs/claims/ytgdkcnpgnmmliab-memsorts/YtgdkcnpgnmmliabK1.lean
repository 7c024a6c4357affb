/- Walks: cmp.Compare, cmp.Or, Entry.Check, Entry.Cmp, big. -/
import Derived.Test.YtgdkcnpgnmmliabProg
import Derived.WalkKit
import Derived.WalkSpells
import Derived.WalkLawsBesides
import Derived.Deep.LoopGhost
import Derived.Test.YtgdkcnpgnmmliabOpw
import Derived.Deep.RegionHeld3
import Derived.Deep.DeepCutAuto
import Derived.StillTailTactics
import Derived.BigQuiet
import Derived.Lib.Hide
namespace Go.Proofs.Ytgdkcnpgnmmliab
set_option linter.unusedSimpArgs false
set_option linter.unusedVariables false
open Go.RowKit

abbrev ent (k : ByteArray) (S : Int) (d : Bool) (v : ByteArray) : Value := .agg #[.string k, .int .u64 S, .bool d, .string v]

def cS (a b : ByteArray) : Int := if Op.bytesLess a.toList b.toList = true then -1 else if (a.toList == b.toList) = true then 0 else 1
def cU (x y : Int) : Int := if x < y then -1 else if y < x then 1 else 0

set_option maxHeartbeats 400000 in
theorem nanS_any (a : ByteArray) (w : World) : Calls Try.prog 44 #[.string a] w fun e w' => e = .returned (.bool false) ∧ w = w' := by
  go_enter Try.func44, Try.ntmps44
  go_wp2
  go_ret
  simp
set_option maxHeartbeats 400000 in
theorem nanU_any (a : Int) (w : World) : Calls Try.prog 45 #[.int .u64 a] w fun e w' => e = .returned (.bool false) ∧ w = w' := by
  go_enter Try.func45, Try.ntmps45
  go_wp2
  go_ret
  simp

set_option maxHeartbeats 400000 in
theorem compS_any (a b : ByteArray) (w : World) : Calls Try.prog 33 #[.string a, .string b] w fun e w' => e = .returned (.int .i64 (cS a b)) ∧ w = w' := by
  unfold cS
  cases h1 : Op.bytesLess a.toList b.toList
  · cases h2 : (a.toList == b.toList)
    · go_enter Try.func33, Try.ntmps33
      go_wp2_with (go_at_call 44; refine (nanS_any _ _).mono ?_; rintro e w' ⟨rfl, rfl⟩)
      go_ret
      exact ⟨rfl, rfl⟩
    · go_enter Try.func33, Try.ntmps33
      go_wp2_with (go_at_call 44; refine (nanS_any _ _).mono ?_; rintro e w' ⟨rfl, rfl⟩)
      go_ret
      exact ⟨rfl, rfl⟩
  · go_enter Try.func33, Try.ntmps33
    go_wp2_with (go_at_call 44; refine (nanS_any _ _).mono ?_; rintro e w' ⟨rfl, rfl⟩)
    go_ret
    exact ⟨rfl, rfl⟩

set_option maxHeartbeats 400000 in
theorem compU_any (a b : Int) (w : World) : Calls Try.prog 34 #[.int .u64 a, .int .u64 b] w fun e w' => e = .returned (.int .i64 (cU a b)) ∧ w = w' := by
  unfold cU
  by_cases h1 : a < b
  · rw [if_pos h1]
    go_enter Try.func34, Try.ntmps34
    go_wp2_with (go_at_call 45; refine (nanU_any _ _).mono ?_; rintro e w' ⟨rfl, rfl⟩)
    go_ret
    exact ⟨rfl, rfl⟩
  · rw [if_neg h1]
    by_cases h2 : b < a
    · rw [if_pos h2]
      go_enter Try.func34, Try.ntmps34
      go_wp2_with (go_at_call 45; refine (nanU_any _ _).mono ?_; rintro e w' ⟨rfl, rfl⟩)
      go_ret
      exact ⟨rfl, rfl⟩
    · rw [if_neg h2]
      go_enter Try.func34, Try.ntmps34
      go_wp2_with (go_at_call 45; refine (nanU_any _ _).mono ?_; rintro e w' ⟨rfl, rfl⟩)
      go_ret
      exact ⟨rfl, rfl⟩

set_option maxHeartbeats 400000 in
theorem or_any (g : Nat) (a b : Int) (r : Int) (HR : Hid ((if a = 0 then b else a) = r)) (w : World) (h0 : w.cell? ⟨g, 0, none⟩ = some (.int .i64 a)) (h1 : w.cell? ⟨g, 1, none⟩ = some (.int .i64 b)) :
    Calls Try.prog 32 #[.slice (some ⟨g, 0, none⟩) 2 2] w fun e w' => e = .returned (.int .i64 r) ∧ w = w' := by
  go_enter Try.func32, Try.ntmps32
  go_wp2
  go_loop [8] (fun i => ∃ j : Nat, j ≤ 2 ∧ i = .int .i64 j ∧ Hid ((1 ≤ j → a = 0) ∧ (2 ≤ j → b = 0))) (fun i => 2 - (intOf i).toNat)
  case atStart => exact ⟨0, by omega, rfl, Lib.hid ⟨fun h => absurd h (by omega), fun h => absurd h (by omega)⟩⟩
  case round =>
    obtain ⟨j, hj, rfl, HJ⟩ := hrel
    have hjj : j = 0 ∨ j = 1 ∨ j = 2 := by omega
    clear hj
    rcases hjj with rfl | rfl | rfl
    · by_cases ha : a = 0
      · subst ha
        go_wp2
        go_round
        case rel => exact ⟨1, by omega, rfl, by exact ⟨by simp, by simp⟩⟩
        case measure => simp [intOf]
      · have e1 : (a != 0) = true := by simpa using ha
        go_wp2
        go_ret
        exact ⟨by rw [← HR.out, if_neg ha]; rfl, rfl⟩
    · by_cases hb : b = 0
      · subst hb
        go_wp2
        go_round
        case rel => exact ⟨2, by omega, rfl, by exact ⟨fun _ => HJ.out.1 (by omega), by simp⟩⟩
        case measure => simp [intOf]
      · have e1 : (b != 0) = true := by simpa using hb
        go_wp2
        go_ret
        exact ⟨by rw [← HR.out, if_pos (HJ.out.1 (by omega))]; rfl, rfl⟩
    · go_wp2
      go_ret
      exact ⟨by rw [← HR.out, if_pos (HJ.out.1 (by omega)), HJ.out.2 (by omega)]; rfl, rfl⟩

theorem pair_new (w : World) (x y : Value) (t n : Nat) (hn : n = w.heap.size) :
    (w.alloc (.cells #[x, y] t)).cell? ⟨n, 0, none⟩ = some x ∧ (w.alloc (.cells #[x, y] t)).cell? ⟨n, 1, none⟩ = some y := by
  subst hn
  constructor <;> (rw [World.cell?_alloc_mark]; rfl)
theorem pair_newd (w : World) (x y : Value) (t n : Nat) (hn : n = w.heap.size) :
    (w.alloc (.cells #[x, y] t)).drew.cell? ⟨n, 0, none⟩ = some x ∧ (w.alloc (.cells #[x, y] t)).drew.cell? ⟨n, 1, none⟩ = some y := pair_new w x y t n hn

/-- The order of two entries: by key, then the greater number first. -/
def cE (a : ByteArray) (S : Int) (b : ByteArray) (T : Int) : Int := if cS a b = 0 then cU T S else cS a b

set_option maxHeartbeats 1000000 in
theorem cmp_any (a : ByteArray) (S : Int) (d : Bool) (u : ByteArray) (b : ByteArray) (T : Int) (f : Bool) (v : ByteArray) (w : World) :
    Calls Try.prog 19 #[ent a S d u, ent b T f v] w fun e w' => e = .returned (.int .i64 (cE a S b T)) ∧ Below w.heap.size w w' := by
  unfold cE ent
  generalize hx : cS a b = x
  generalize hy : cU T S = y
  have c1 : ∀ w, Calls Try.prog 33 #[.string a, .string b] w fun e w' => e = .returned (.int .i64 x) ∧ w = w' := by rw [← hx]; exact compS_any a b
  have c2 : ∀ w, Calls Try.prog 34 #[.int .u64 T, .int .u64 S] w fun e w' => e = .returned (.int .i64 y) ∧ w = w' := by rw [← hy]; exact compU_any T S
  have C1 := Lib.hid c1
  have C2 := Lib.hid c2
  clear hx hy c1 c2
  generalize hz : (if x = 0 then y else x) = z
  have HZ := Lib.hid hz
  clear hz
  go_enter Try.func19, Try.ntmps19
  go_upto_region 1 with fail
  go_region_held3 (fun w' => w'.cell? ⟨w.heap.size, 0, none⟩ = some (.string a) ∧ w'.cell? ⟨w.heap.size, 1, none⟩ = some (.int .u64 S) ∧ w'.cell? ⟨w.heap.size + 1, 0, none⟩ = some (.string b) ∧ w'.cell? ⟨w.heap.size + 1, 1, none⟩ = some (.int .u64 T)) (go_keep)
    (first
      | (go_at_call 33; refine (C1.out _).mono ?_; rintro e w' ⟨rfl, rfl⟩)
      | (go_at_call 34; refine (C2.out _).mono ?_; rintro e w' ⟨rfl, rfl⟩)
      | (go_at_call 32; refine (or_any _ x y z HZ _ ?_ ?_).mono ?_; (with_reducible exact (pair_newd _ _ _ _ _ (by simp)).1); (with_reducible exact (pair_newd _ _ _ _ _ (by simp)).2); rintro e w' ⟨rfl, rfl⟩))
  all_goals
    go_wp2
    go_ret
    exact ⟨rfl, ((((Below.refl _ _).alloc (Nat.le_refl _) _).alloc (by simp) _).alloc (by simp; omega) _).drew⟩

/-- Whether an entry is right. -/
def chk (n : Nat) (S : Int) (d : Bool) (m : Nat) : Int :=
  if n = 0 ∨ 72057594037927935 < S ∨ (d = true ∧ m ≠ 0) then 1 else if 128 < n ∨ 65536 < m then 6 else 0

theorem emp_iff (k : ByteArray) : k.toList.isEmpty = decide (k.size = 0) := by
  rw [ByteArray.toList_eq]
  cases h : k.data.toList with
  | nil => have : k.size = 0 := by show k.data.size = 0; rw [← Array.length_toList, h]; rfl
           simp [this]
  | cons a l => have : k.size ≠ 0 := by show k.data.size ≠ 0; rw [← Array.length_toList, h]; simp
                simp [this]

set_option maxHeartbeats 1000000 in
theorem check_any (k : ByteArray) (S : Int) (d : Bool) (v : ByteArray) (hk : k.size ≤ maxLen) (hv : v.size ≤ maxLen) (w : World) :
    Calls Try.prog 18 #[ent k S d v] w fun e w' => e = .returned (.int .i64 (chk k.size S d v.size)) ∧ Below w.heap.size w w' := by
  unfold maxLen at hk hv
  generalize hz : chk k.size S d v.size = z
  have HZ := Lib.hid hz
  clear hz
  have HK := Lib.hid (emp_iff k)
  have HV := Lib.hid (emp_iff v)
  unfold ent
  go_enter Try.func18, Try.ntmps18
  go_wp2
  all_goals
    go_ret
    refine ⟨congrArg Ending.returned ?_, (Below.refl _ _).alloc (Nat.le_refl _) _⟩
    rw [← HZ.out]
    clear HZ
    have hK := HK.out
    have hV := HV.out
    clear HK HV
    unfold chk
    first
      | (rw [if_pos (by simp_all; try omega)]; rfl)
      | (rw [if_neg (by simp_all; try omega), if_pos (by simp_all; try omega)]; rfl)
      | (rw [if_neg (by simp_all; try omega), if_neg (by simp_all; try omega)]; rfl)
      | (exfalso; simp_all; done)

end Go.Proofs.Ytgdkcnpgnmmliab
