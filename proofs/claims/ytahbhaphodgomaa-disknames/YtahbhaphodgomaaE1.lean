/- Walks: bytes.Clone, Read, Size. -/
import Derived.Test.YtahbhaphodgomaaD9
namespace Go.Proofs.Ytahbhaphodgomaa
set_option linter.unusedSimpArgs false
set_option linter.unusedVariables false
open Go.RowKit Go.Maps

theorem run_eql_nil {P : Program} (w : World) (t e : TypeId) (a : Option Addr) (l c : Nat) (h : P.underlying t = some (.slice e)) : (binOp .eql t (.slice a l c) (.slice none 0 0)).run P w = .ok (.bool a.isNone) w := by
  simp only [binOp]
  simp [run_equal_slice_nil w t e a l c h]

set_option maxHeartbeats 400000 in
theorem clone_any (A : Option Addr) (n c : Nat) (bs : List Nat) (w : World) (B : Nat) (hB : B ≤ w.heap.size) (hr : Rd w B A n (bys bs)) (hn : n ≤ 1000000000) :
    Calls Try.prog 39 #[.slice A n c] w fun e w' => ∃ v, e = .returned v ∧ Buf w' w.heap.size v n (bys bs) ∧ Below w.heap.size w w' := by
  obtain ⟨i0, hi, hz0, hz1, hz2⟩ := info_parts Try.info5
  have hnil := fun wx => run_eql_nil (P := Try.prog) wx 29 5 A n c Try.underlying29
  cases A with
  | none =>
    have h0 : n = 0 := by
      rcases Nat.eq_zero_or_pos n with h | h
      · exact h
      · obtain ⟨g, off, e, _⟩ := hr.2 h; cases e
    subst h0
    have hbs : bys bs = [] := List.eq_nil_of_length_eq_zero hr.1
    rw [hbs]
    go_enter Try.func39, Try.ntmps39
    go_wp2_with fail
    go_ret
    exact ⟨_, rfl, Buf.nil _ _, Below.refl _ _⟩
  | some a =>
    have hb0 := Buf.new w w.heap.size 5 #[] (0, 0) (Nat.le_refl _) (by unfold maxLen; simp)
    have hr1 := hr.alloc hB (.cells #[] 5)
    go_enter Try.func39, Try.ntmps39
    go_wp2_with (at_builtin; refine wpList_append_buf _ rfl (.tmp 5) (.tmp 6) 29 rfl w.heap.size 5 i0 (.int .u8 0) 1 Try.underlying29 hi hz0 hz1 hz2 rfl rfl hb0 rfl hr1 (bys_one _) ?b1 ?b2 (by simp) ?next)
    case b1 => unfold maxLen; first | omega | (simp; omega)
    case b2 => first | omega | (simp; omega)
    case next =>
      intro v' w' r1 r2 r3
      go_wp2
      go_ret
      have r1' : Buf w' w.heap.size v' n (bys bs) := by simpa using r1
      refine ⟨v', rfl, r1', ?_⟩
      have hba : Below w.heap.size w (w.alloc (.cells #[] 5)) := (Below.refl _ _).alloc (Nat.le_refl _) _
      exact hba.grown r2 (by simp) (fun k hk => by simp [Value.ownBlock] at hk; omega)

def DS.read (s : DS) (x : List UInt8) (a n : Int) : List Nat × Nat :=
  if s.down then ([], 10) else match lookA s.all x with
  | none => ([], 4)
  | some f => if a < 0 ∨ (f.data.length : Int) < a ∨ n < 0 then ([], 1) else ((f.data.drop a.toNat).take n.toNat, 0)

set_option maxHeartbeats 1000000 in
set_option maxRecDepth 100000 in
theorem read_any (w : World) (base gd : Nat) (L : List Nat) (s : DS) (x : List UInt8) (at' n : Int) (h : Dk w base gd L s) (hx : x.length ≤ 1000) (ha : -9223372036854775808 ≤ at' ∧ at' ≤ 9223372036854775807) (hn : -9223372036854775808 ≤ n ∧ n ≤ 9223372036854775807) :
    Calls Try.prog 17 #[.pointer (some ⟨gd, 0, none⟩), str x, .int .i64 at', .int .i64 n] w fun e w' => ∃ v, e = .returned (.tuple #[v, .int .i64 ((s.read x at' n).2 : Int)]) ∧ Buf w' w.heap.size v (s.read x at' n).1.length (bys (s.read x at' n).1) ∧ Below w.heap.size w w' := by
  obtain ⟨i0, hi, hz0, hz1, hz2⟩ := info_parts Try.info5
  rcases find_cases h x hx with ⟨hdn, hF⟩ | ⟨hdn, hl, hF⟩ | ⟨mv, pre, f, post, hdn, hl, hfx, hd, hA, hL, hF⟩
  · rw [show s.read x at' n = ([], 10) by simp [DS.read, hdn]]
    clear h hdn hx
    unfold str at hF ⊢
    go_enter Try.func17, Try.ntmps17
    go_wp2_with fail
    refine hF.mono ?_
    rintro e w1 ⟨rfl, rfl⟩
    go_wp2_with fail
    go_ret2
    exact ⟨_, rfl, Buf.nil _ _, Below.refl _ _⟩
  · rw [show s.read x at' n = ([], 4) by simp [DS.read, hdn, hl]]
    clear h hdn hx hl
    unfold str at hF ⊢
    go_enter Try.func17, Try.ntmps17
    go_wp2_with fail
    refine hF.mono ?_
    rintro e w1 ⟨rfl, rfl⟩
    go_wp2_with fail
    go_ret2
    exact ⟨_, rfl, Buf.nil _ _, Below.refl _ _⟩
  · have hfa := hd.files f (by simp)
    have hq0 := hfa.box.c0
    obtain ⟨A, c, ev, hc, hrd⟩ := hfa.buf.slice
    rw [ev] at hq0
    have hfl : (f.data.length : Int) ≤ 67108864 := by have h1 := hd.fit; have h2 := hd.room_le; rw [used_split] at h1; omega
    obtain ⟨D, HD⟩ : ∃ D, Hid (D = f.data) := ⟨_, Lib.hid rfl⟩
    have hcm := hfa.buf
    rw [ev] at hcm
    have hcm := hcm.cap_le
    unfold maxLen at hcm
    obtain ⟨K, HK⟩ : ∃ K, Hid (K = f.data.length) := ⟨_, Lib.hid rfl⟩
    rw [← HK.out] at hq0 hc hrd hfl
    have hread : s.read x at' n = if at' < 0 ∨ (K : Int) < at' ∨ n < 0 then ([], 1) else ((f.data.drop at'.toNat).take n.toNat, 0) := by rw [HK.out]; simp [DS.read, hdn, hl, abs]
    clear hd hl hA hL h hfa ev hdn hx hfx
    unfold str at hF ⊢
    by_cases hb1 : at' < 0
    · rw [hread, if_pos (Or.inl hb1)]
      clear hread
      go_enter Try.func17, Try.ntmps17
      go_wp2_with fail
      refine hF.mono ?_
      rintro e w1 ⟨rfl, rfl⟩
      go_wp2_with fail
      go_ret2
      exact ⟨_, rfl, Buf.nil _ _, Below.refl _ _⟩
    · have hb1' : decide (at' < 0) = false := by simp; omega
      by_cases hb2 : (K : Int) < at'
      · rw [hread, if_pos (Or.inr (Or.inl hb2))]
        clear hread
        go_enter Try.func17, Try.ntmps17
        go_wp2_with fail
        refine hF.mono ?_
        rintro e w1 ⟨rfl, rfl⟩
        go_wp2_with fail
        go_ret2
        exact ⟨_, rfl, Buf.nil _ _, Below.refl _ _⟩
      · have hb2' : decide ((K : Int) < at') = false := by simp; omega
        by_cases hb3 : n < 0
        · rw [hread, if_pos (Or.inr (Or.inr hb3))]
          clear hread
          go_enter Try.func17, Try.ntmps17
          go_wp2_with fail
          refine hF.mono ?_
          rintro e w1 ⟨rfl, rfl⟩
          go_wp2_with fail
          go_ret2
          exact ⟨_, rfl, Buf.nil _ _, Below.refl _ _⟩
        · have hb3' : decide (n < 0) = false := by simp; omega
          rw [hread, if_neg (by omega)]
          clear hread
          obtain ⟨a, rfl⟩ : ∃ a : Nat, at' = a := ⟨at'.toNat, by omega⟩
          obtain ⟨m, rfl⟩ : ∃ m : Nat, n = m := ⟨n.toNat, by omega⟩
          have haK : a ≤ K := by omega
          obtain ⟨q, hq⟩ : ∃ q, q = min m (K - a) := ⟨_, rfl⟩
          have hqb : a + q ≤ K := by omega
          have hmin : min (m : Int) (((K - a : Nat)) : Int) = (q : Int) := by omega
          have hres : (f.data.drop a).take m = (f.data.drop a).take q := by
            by_cases hmk : m ≤ K - a
            · rw [show q = m by omega]
            · rw [List.take_of_length_le (by rw [List.length_drop, ← HK.out]; omega), List.take_of_length_le (by rw [List.length_drop, ← HK.out]; omega)]
          have hlen : ((f.data.drop a).take q).length = q := by rw [List.length_take, List.length_drop, ← HK.out]; omega
          obtain ⟨A', HA'⟩ : ∃ A' : Option Addr, Hid (A' = if c = a then A else A.map (·.add a)) := ⟨_, Lib.hid rfl⟩
          have hsl1 := fun wx => run_slice_l (P := Try.prog) wx 29 5 i0 Try.underlying29 hi hz1 A K c a haK .i64 (a : Int) rfl
          simp only [← HA'.out] at hsl1
          have hsl2 := fun wx => run_slice_h (P := Try.prog) wx 29 5 i0 Try.underlying29 hi hz1 A' (K - a) (c - a) q (by omega) .i64 (q : Int) rfl
          have hrm := hrd.mid a (a + q) c (by omega) hqb hc
          rw [← HA'.out, show a + q - a = q by omega, ← bys_drop, ← bys_take] at hrm
          have hC := Lib.hid (clone_any A' q (c - a) _ w w.heap.size (Nat.le_refl _) hrm (by omega))
          rw [show ((a : Int)).toNat = a from rfl, show ((m : Int)).toNat = m from rfl, hres, hlen]
          generalize (f.data.drop a).take q = R at *
          generalize hKa : K - a = Ka at *
          have hKab : (Ka : Int) ≤ 67108864 := by omega
          clear hres hlen hrm hrd hKa
          by_cases hmk : m ≤ Ka
          · obtain rfl : q = m := by omega
            have hmk' : (q : Int) ≤ (Ka : Int) := by omega
            clear hq
            go_enter Try.func17, Try.ntmps17
            go_wp2_with fail
            refine hF.mono ?_
            rintro e w1 ⟨rfl, rfl⟩
            go_wp2_with fail
            refine hC.out.mono ?_
            rintro e w1 ⟨v, rfl, hbv, hbl⟩
            go_wp2_with fail
            go_ret2
            exact ⟨_, rfl, hbv, hbl⟩
          · obtain rfl : q = Ka := by omega
            have hmk' : (q : Int) < (m : Int) := by omega
            clear hq
            go_enter Try.func17, Try.ntmps17
            go_wp2_with fail
            refine hF.mono ?_
            rintro e w1 ⟨rfl, rfl⟩
            go_wp2_with fail
            refine hC.out.mono ?_
            rintro e w1 ⟨v, rfl, hbv, hbl⟩
            go_wp2_with fail
            go_ret2
            exact ⟨_, rfl, hbv, hbl⟩
end Go.Proofs.Ytahbhaphodgomaa
