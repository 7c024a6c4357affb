/- Walks: bytes.Clone; record.Next. -/
import Derived.Test.YtahbhaphodgomabDoorR3
import Derived.Laws.Cover3
namespace Go.Proofs.YtahbhaphodgomabDoor
set_option linter.unusedSimpArgs false
set_option linter.unusedVariables false
open Go.RowKit

theorem run_eql_nil {P : Program} (w : World) (t e : TypeId) (a : Addr) (l c : Nat) (h : P.underlying t = some (.slice e)) : (binOp .eql t (.slice (some a) l c) (.slice none 0 0)).run P w = .ok (.bool false) w := by
  simp only [binOp]
  simp [run_equal_slice_nil w t e (some a) l c h]

set_option maxHeartbeats 400000 in
theorem clone_any (a : Addr) (n c : Nat) (bs : List Nat) (w : World) (B : Nat) (hB : B ≤ w.heap.size) (hr : Rd w B (some a) n (bys bs)) (hn : n ≤ 1000000000) :
    Calls Tryd.prog 21 #[.slice (some a) n c] w fun e w' => ∃ v, e = .returned v ∧ Laid w w.heap.size (.slice none 0 0) w' v n (bys bs) := by
  obtain ⟨i0, hi, hz0, hz1, hz2⟩ := info_parts Tryd.info5
  have hnil := fun wx => run_eql_nil (P := Tryd.prog) wx 22 5 a n c Tryd.underlying22
  have hb0 := Buf.new w w.heap.size 5 #[] (0, 0) (Nat.le_refl _) (by unfold maxLen; simp)
  have hr1 := hr.alloc hB (.cells #[] 5)
  go_enter Tryd.func21, Tryd.ntmps21
  go_wp2_with (at_builtin; refine wpList_append_buf _ rfl (.tmp 5) (.tmp 6) 22 rfl w.heap.size 5 i0 (.int .u8 0) 1 Tryd.underlying22 hi hz0 hz1 hz2 rfl rfl hb0 rfl hr1 (bys_one _) ?b1 ?b2 (by simp) ?next)
  case b1 => unfold maxLen; first | omega | (simp; omega)
  case b2 => first | omega | (simp; omega)
  case next =>
    intro v' w' r1 r2 r3
    go_wp2
    go_ret
    have r1' : Buf w' w.heap.size v' n (bys bs) := by simpa using r1
    have hg0 : w.grownBy (w.alloc (.cells #[] 5)) none := World.grownBy_alloc w _ _
    refine ⟨v', rfl, r1', ⟨(r2.os).trans hg0.os, (r2.tape).trans hg0.tape, (r2.output).trans hg0.output, Nat.le_trans hg0.size r2.size, fun k hk _ => ?_⟩, .inr fun k hk => (r1'.lt k hk).1⟩
    refine (r2.block k (by simp; omega) (fun e => ?_)).trans (hg0.block k hk (by simp))
    simp [Value.ownBlock] at e
    omega

/-- The number of the first four bytes. -/
def lv4 (bs : List Nat) : Nat := M.lv bs 4
theorem lv_take (bs : List Nat) (k j : Nat) (h : k ≤ j) : M.lv (bs.take j) k = M.lv bs k := by
  induction k with
  | zero => rfl
  | succ k ih => rw [M.lv, M.lv, ih (by omega)]; simp [List.getD_eq_getElem?_getD, List.getElem?_take, show k < j by omega]
theorem lv4_take (bs : List Nat) : M.lv (bs.take 4) 4 = lv4 bs := lv_take bs 4 4 (Nat.le_refl _)
theorem lv4_lt (bs : List Nat) (hb : ∀ c ∈ bs, c < 256) : lv4 bs < 4294967296 := by have := M.lv_lt bs hb 4; unfold lv4; simpa using this

/-- What Next answers: its error; the bytes. -/
def nE (bs : List Nat) : Nat :=
  if bs.length < 12 then 8 else if lv4 (bs.drop 4) ≠ ck (bs.take 4) ∨ 1048576 < lv4 bs then 12 else if bs.length - 12 < lv4 bs then 8
  else if lv4 (bs.drop 8) ≠ ck ((bs.drop 12).take (lv4 bs)) then 12 else 0
def nD (bs : List Nat) : List Nat := if nE bs = 0 then (bs.drop 12).take (lv4 bs) else []
def nN (bs : List Nat) : Nat := if nE bs = 0 then 12 + lv4 bs else 0

theorem next_bad (bs : List Nat) (h : nE bs ≠ 0) : nD bs = [] ∧ nN bs = 0 := ⟨by unfold nD; rw [if_neg h], by unfold nN; rw [if_neg h]⟩

def NextPost (w : World) (bs : List Nat) (e : Ending) (w' : World) : Prop :=
  ∃ v, e = .returned (.tuple #[v, .int .i64 (nN bs : Int), .int .i64 (nE bs : Int)]) ∧ Laid w w.heap.size (.slice none 0 0) w' v (nD bs).length (bys (nD bs))
theorem next_fail {w : World} {bs : List Nat} {E : Nat} (h : nE bs = E) (h0 : E ≠ 0) : NextPost w bs (.returned (.tuple #[.slice none 0 0, .int .i64 0, .int .i64 (E : Int)])) w := by
  obtain ⟨h1, h2⟩ := next_bad bs (by rw [h]; exact h0)
  refine ⟨.slice none 0 0, by rw [h2, h]; rfl, ?_⟩
  rw [h1]
  exact Laid.refl (Buf.nil w _)

set_option maxHeartbeats 1000000 in
set_option maxRecDepth 100000 in
theorem next_any (A : Option Addr) (n c : Nat) (bs : List Nat) (w : World) (hr : Rd w w.heap.size A n (bys bs)) (hb : ∀ c ∈ bs, c < 256) (hn : n ≤ 100000000) (hc : n ≤ c) (hcm : c ≤ maxLen) (ht : TabAt w) :
    Calls Tryd.prog 12 #[.slice A n c] w (NextPost w bs) := by
  obtain ⟨i0, hi, hz0, hz1, hz2⟩ := info_parts Tryd.info5
  have hbl : bs.length = n := by have := hr.1; rwa [bys_len] at this
  unfold maxLen at hcm
  by_cases h12 : n < 12
  · have h12' : (n : Int) < 12 := by omega
    have hE : nE bs = 8 := by unfold nE; rw [if_pos (by omega)]
    have HF := Lib.hid (next_fail (w := w) hE (by decide))
    clear hE ht
    go_enter Tryd.func12, Tryd.ntmps12
    go_wp2
    go_ret3
    exact HF.out
  · have h12' : decide ((n : Int) < 12) = false := by simp; omega
    have hb4 : ∀ c ∈ bs.take 4, c < 256 := fun x hx => hb x (List.mem_of_mem_take hx)
    have hr4 := hr.take 4 (by omega)
    rw [← bys_take] at hr4
    have hr48 := hr.mid 4 8 c (by omega) (by omega) hc
    have hr812 := hr.mid 8 12 c (by omega) (by omega) hc
    have hrr := hr.drop 12 c (by omega) hc
    rw [show 8 - 4 = 4 from rfl, ← bys_drop, ← bys_take] at hr48
    rw [show 12 - 8 = 4 from rfl, ← bys_drop, ← bys_take] at hr812
    rw [← bys_drop] at hrr
    have hs1 := fun wx => run_slice_h (P := Tryd.prog) wx 22 5 i0 Tryd.underlying22 hi hz1 A n c 4 (by omega) .i64 4 rfl
    have hs2 := fun wx => run_slice_lh (P := Tryd.prog) wx 22 5 i0 Tryd.underlying22 hi hz1 A n c 4 8 (by omega) (by omega) .i64 .i64 4 8 rfl rfl
    have hs3 := fun wx => run_slice_l (P := Tryd.prog) wx 22 5 i0 Tryd.underlying22 hi hz1 A n c 12 (by omega) .i64 12 rfl
    have hs4 := fun wx => run_slice_lh (P := Tryd.prog) wx 22 5 i0 Tryd.underlying22 hi hz1 A n c 8 12 (by omega) (by omega) .i64 .i64 8 12 rfl rfl
    rw [if_neg (by omega)] at hr48 hr812
    simp only [if_neg (show ¬ c = 4 by omega), if_neg (show ¬ c = 8 by omega), show 8 - 4 = 4 from rfl, show 12 - 8 = 4 from rfl] at hs2 hs4
    generalize A.map (·.add 4) = A4 at *
    generalize A.map (·.add 8) = A8 at *
    have HA12 : (if c = 12 then A else A.map (·.add 12)).isSome = true := by
      obtain ⟨g, off, rfl, _⟩ := hr.2 (by omega)
      split <;> rfl
    generalize (if c = 12 then A else A.map (·.add 12)) = A12 at *
    have HL1 := Lib.hid (little_any A 4 c (bs.take 4) w _ hr4 hb4 (by omega))
    have HL2 := Lib.hid (little_any A4 4 (c - 4) ((bs.drop 4).take 4) w _ hr48 (fun x hx => hb x (List.mem_of_mem_drop (List.mem_of_mem_take hx))) (by omega))
    have HL3 := Lib.hid (little_any A8 4 (c - 8) ((bs.drop 8).take 4) w _ hr812 (fun x hx => hb x (List.mem_of_mem_drop (List.mem_of_mem_take hx))) (by omega))
    rw [show min 4 8 = 4 from rfl, lv4_take] at HL1 HL2 HL3
    have HC1 := Lib.hid (check_any A 4 c (bs.take 4) w _ hr4 hb4 (by omega) ht)
    have hsz := lv4_lt bs hb
    have hq1 := lv4_lt (bs.drop 4) (fun x hx => hb x (List.mem_of_mem_drop hx))
    have hq2 := ck_lt (bs.take 4)
    by_cases hbad : lv4 (bs.drop 4) ≠ ck (bs.take 4) ∨ 1048576 < lv4 bs
    · have hE : nE bs = 12 := by unfold nE; rw [if_neg (by omega), if_pos hbad]
      have HF := Lib.hid (next_fail (w := w) hE (by decide))
      clear hE ht hr hr4 hr48 hr812 hrr hb4
      generalize lv4 (bs.drop 4) = q at *
      generalize ck (bs.take 4) = k at *
      generalize lv4 bs = z at *
      by_cases hqk : q = k
      · subst hqk
        have hz : (1048576 : Int) < (z : Int) := by omega
        go_enter Tryd.func12, Tryd.ntmps12
        go_wp2_with fail
        refine HL1.out.mono ?_
        rintro e w1 ⟨rfl, rfl⟩
        go_wp2_with fail
        refine HL2.out.mono ?_
        rintro e w1 ⟨rfl, rfl⟩
        go_wp2_with fail
        refine HC1.out.mono ?_
        rintro e w1 ⟨rfl, rfl⟩
        go_wp2_with fail
        go_ret3
        exact HF.out
      · have hqk' : ((q : Int) != (k : Int)) = true := by simp; omega
        go_enter Tryd.func12, Tryd.ntmps12
        go_wp2_with fail
        refine HL1.out.mono ?_
        rintro e w1 ⟨rfl, rfl⟩
        go_wp2_with fail
        refine HL2.out.mono ?_
        rintro e w1 ⟨rfl, rfl⟩
        go_wp2_with fail
        refine HC1.out.mono ?_
        rintro e w1 ⟨rfl, rfl⟩
        go_wp2_with fail
        go_ret3
        exact HF.out
    · have hq : lv4 (bs.drop 4) = ck (bs.take 4) := Classical.byContradiction fun h => hbad (.inl h)
      have hz : ¬ 1048576 < lv4 bs := fun h => hbad (.inr h)
      rw [hq] at HL2
      by_cases hshort : n - 12 < lv4 bs
      · have hE : nE bs = 8 := by unfold nE; rw [if_neg (by omega), if_neg hbad, if_pos (by omega)]
        have HF := Lib.hid (next_fail (w := w) hE (by decide))
        clear hE ht hr hr4 hr48 hr812 hrr hb4 hbad hq hq1
        generalize ck (bs.take 4) = k at *
        generalize lv4 bs = z at *
        have hz' : decide ((1048576 : Int) < (z : Int)) = false := by simp; omega
        have hsh : ((n - 12 : Nat) : Int) < (z : Int) := by omega
        go_enter Tryd.func12, Tryd.ntmps12
        go_wp2_with fail
        refine HL1.out.mono ?_
        rintro e w1 ⟨rfl, rfl⟩
        go_wp2_with fail
        refine HL2.out.mono ?_
        rintro e w1 ⟨rfl, rfl⟩
        go_wp2_with fail
        refine HC1.out.mono ?_
        rintro e w1 ⟨rfl, rfl⟩
        go_wp2_with fail
        go_ret3
        exact HF.out
      · have hrd := hrr.take (lv4 bs) (by omega)
        rw [← bys_take] at hrd
        have hbd : ∀ c ∈ (bs.drop 12).take (lv4 bs), c < 256 := fun x hx => hb x (List.mem_of_mem_drop (List.mem_of_mem_take hx))
        have HC2 := Lib.hid (check_any A12 (lv4 bs) (c - 12) _ w _ hrd hbd (by omega) ht)
        obtain ⟨a12, rfl⟩ := Option.isSome_iff_exists.1 HA12
        have HCL := Lib.hid (clone_any a12 (lv4 bs) (c - 12) _ w _ (Nat.le_refl _) hrd (by omega))
        have hs5 := fun wx => run_slice_h (P := Tryd.prog) wx 22 5 i0 Tryd.underlying22 hi hz1 (some a12) (n - 12) (c - 12) (lv4 bs) (by omega) .u64 (lv4 bs : Int) rfl
        have hq3 := lv4_lt (bs.drop 8) (fun x hx => hb x (List.mem_of_mem_drop hx))
        have hq4 := ck_lt ((bs.drop 12).take (lv4 bs))
        by_cases hck : lv4 (bs.drop 8) = ck ((bs.drop 12).take (lv4 bs))
        · have hE : nE bs = 0 := by unfold nE; rw [if_neg (by omega), if_neg hbad, if_neg (by omega), if_neg (by simpa using hck)]
          have hD : nD bs = (bs.drop 12).take (lv4 bs) := by unfold nD; rw [if_pos hE]
          have hDl : ((bs.drop 12).take (lv4 bs)).length = lv4 bs := by rw [List.length_take, List.length_drop, hbl]; exact Nat.min_eq_left (by omega)
          have hN : nN bs = 12 + lv4 bs := by unfold nN; rw [if_pos hE]
          have HF : Hid (∀ v w', Laid w w.heap.size (.slice none 0 0) w' v (lv4 bs) (bys ((bs.drop 12).take (lv4 bs))) → NextPost w bs (.returned (.tuple #[v, .int .i64 (12 + (lv4 bs : Int)), .int .i64 0])) w') :=
            Lib.hid fun v w' h => ⟨v, by rw [hN, hE]; simp, by rw [hD, hDl]; exact h⟩
          rw [hck] at HL3
          clear hE ht hr hr4 hr48 hr812 hrr hb4 hbad hq hq1 hD hN hck hrd hbd hDl
          generalize (bs.drop 12).take (lv4 bs) = T at *
          generalize ck (bs.take 4) = k at *
          generalize ck T = k2 at *
          generalize lv4 bs = z at *
          have hz' : decide ((1048576 : Int) < (z : Int)) = false := by simp; omega
          have hsh : ¬ ((n - 12 : Nat) : Int) < (z : Int) := by omega
          go_enter Tryd.func12, Tryd.ntmps12
          go_wp2_with fail
          refine HL1.out.mono ?_
          rintro e w1 ⟨rfl, rfl⟩
          go_wp2_with fail
          refine HL2.out.mono ?_
          rintro e w1 ⟨rfl, rfl⟩
          go_wp2_with fail
          refine HC1.out.mono ?_
          rintro e w1 ⟨rfl, rfl⟩
          go_wp2_with fail
          refine HL3.out.mono ?_
          rintro e w1 ⟨rfl, rfl⟩
          go_wp2_with fail
          refine HC2.out.mono ?_
          rintro e w1 ⟨rfl, rfl⟩
          go_wp2_with fail
          refine HCL.out.mono ?_
          rintro e w2 ⟨v2, rfl, hl2⟩
          go_wp2_with fail
          go_ret3
          exact HF.out _ _ hl2
        · have hE : nE bs = 12 := by unfold nE; rw [if_neg (by omega), if_neg hbad, if_neg (by omega), if_pos hck]
          have HF := Lib.hid (next_fail (w := w) hE (by decide))
          clear hE ht hr hr4 hr48 hr812 hrr hb4 hbad hq hq1 hrd hbd HCL
          generalize lv4 (bs.drop 8) = q at *
          generalize ck ((bs.drop 12).take (lv4 bs)) = k2 at *
          generalize ck (bs.take 4) = k at *
          generalize lv4 bs = z at *
          have hz' : decide ((1048576 : Int) < (z : Int)) = false := by simp; omega
          have hsh : ¬ ((n - 12 : Nat) : Int) < (z : Int) := by omega
          have hck' : ((q : Int) != (k2 : Int)) = true := by simp; omega
          go_enter Tryd.func12, Tryd.ntmps12
          go_wp2_with fail
          refine HL1.out.mono ?_
          rintro e w1 ⟨rfl, rfl⟩
          go_wp2_with fail
          refine HL2.out.mono ?_
          rintro e w1 ⟨rfl, rfl⟩
          go_wp2_with fail
          refine HC1.out.mono ?_
          rintro e w1 ⟨rfl, rfl⟩
          go_wp2_with fail
          refine HL3.out.mono ?_
          rintro e w1 ⟨rfl, rfl⟩
          go_wp2_with fail
          refine HC2.out.mono ?_
          rintro e w1 ⟨rfl, rfl⟩
          go_wp2_with fail
          go_ret3
          exact HF.out
end Go.Proofs.YtahbhaphodgomabDoor
