/- The walk of NumLines. -/
import Derived.Test.YtkbdmbefhndlcaaCompW
namespace Go.Proofs.Ytkbdmbefhndlcaa
set_option linter.unusedSimpArgs false
set_option linter.unusedVariables false
open Go.RowKit

def u64s (l : List Nat) : List Value := l.map fun (x : Nat) => Value.int .u64 (x : Int)
theorem u64s_get (l : List Nat) (k : Nat) (h : k < l.length) : (u64s l)[k]? = some (.int .u64 ((l.getD k 0 : Nat) : Int)) := by
  simp [u64s, h, List.getD]

theorem rd64_of_row {w : World} {a : Option Addr} {len cap : Nat} {zs : List Int}
    (h : (a = none ∧ len = 0 ∧ cap = 0 ∧ zs = []) ∨ ∃ x, a = some x ∧ len ≤ cap ∧ cap ≤ maxLen ∧ zs.length = cap ∧ (∀ i, i < zs.length → w.cell? (x.add i) = some (.int .u64 (zs.getD i 0))) ∧ ∀ n ∈ zs, (Lit.int .u64 n).wf = true) :
    ∃ bs : List Nat, Rd w w.heap.size a len (u64s bs) ∧ (∀ c ∈ bs, (c : Int) ≤ 18446744073709551615) ∧ bs.length = len ∧ len ≤ cap ∧ cap ≤ maxLen := by
  rcases h with ⟨rfl, rfl, rfl, rfl⟩ | ⟨x, rfl, hl, hm, hz, hc, hw⟩
  · exact ⟨[], Rd.nil, by simp, rfl, by omega, by unfold maxLen; omega⟩
  · have hb : ∀ n ∈ zs, 0 ≤ n ∧ n ≤ 18446744073709551615 := by
      intro n hn
      have := hw n hn
      simpa [Lit.wf, IntKind.min, IntKind.max, IntKind.signed, IntKind.bits] using this
    have hlen : ((zs.take len).map Int.toNat).length = len := by simp; omega
    have hul : (u64s ((zs.take len).map Int.toNat)).length = len := by simp [u64s]; omega
    refine ⟨(zs.take len).map Int.toNat, ⟨hul, fun hn => ?_⟩, ?_, hlen, hl, hm⟩
    · obtain ⟨b, off, rfl, hc'⟩ := ints_at hc (by omega)
      refine ⟨b, off, rfl, World.block_lt_of_cell? _ _ (hc' 0 (by omega)), fun j u hu => ?_⟩
      have hj : j < len := by
        have := (List.getElem?_eq_some_iff.1 hu).1
        rw [hul] at this
        exact this
      rw [u64s_get _ j (by omega)] at hu
      injection hu with hu
      subst hu
      rw [hc' j (by omega)]
      have hjz : j < zs.length := by omega
      have hpos := (hb _ (List.getElem_mem hjz)).1
      simp [List.getD, hj, hjz]
      omega
    · intro c hc
      simp only [List.mem_map] at hc
      obtain ⟨n, hn, rfl⟩ := hc
      have := hb n (List.mem_of_mem_take hn)
      omega

def flP (l : List Nat) : List Nat := (l.map M.putB).flatten
def flC (l : List Nat) : List Nat := (l.map M.compB).flatten
theorem flP_snoc (l : List Nat) (x : Nat) : flP (l ++ [x]) = flP l ++ M.putB x := by simp [flP]
theorem flC_snoc (l : List Nat) (x : Nat) : flC (l ++ [x]) = flC l ++ M.compB x := by simp [flC]
theorem flP_cons (l : List Nat) (x : Nat) : flP (x :: l) = M.putB x ++ flP l := by simp [flP]
theorem flC_cons (l : List Nat) (x : Nat) : flC (x :: l) = M.compB x ++ flC l := by simp [flC]
theorem flP_len (l : List Nat) (h : ∀ c ∈ l, (c : Int) ≤ 18446744073709551615) : (flP l).length ≤ 10 * l.length := by
  induction l with
  | nil => simp [flP]
  | cons x l ih =>
    have h1 := M.sz_le x (by have := h x (by simp); omega)
    have h2 := ih (fun c hc => h c (by simp [hc]))
    rw [flP_cons, List.length_append, M.putB_len, List.length_cons]
    omega
theorem flC_len (l : List Nat) : (flC l).length ≤ 9 * l.length := by
  induction l with
  | nil => simp [flC]
  | cons x l ih =>
    have h1 := M.cs_le x
    rw [flC_cons, List.length_append, M.compB_len, List.length_cons]
    omega
theorem flP_lt (l : List Nat) : ∀ c ∈ flP l, c < 256 := by
  intro c hc
  simp only [flP, List.mem_flatten, List.mem_map] at hc
  obtain ⟨_, ⟨x, _, rfl⟩, h⟩ := hc
  exact M.putB_lt x c h
theorem flC_lt (l : List Nat) : ∀ c ∈ flC l, c < 256 := by
  intro c hc
  simp only [flC, List.mem_flatten, List.mem_map] at hc
  obtain ⟨_, ⟨x, _, rfl⟩, h⟩ := hc
  exact M.compB_lt x c h
theorem take_snoc (l : List Nat) (j : Nat) (h : j < l.length) : l.take (j + 1) = l.take j ++ [l.getD j 0] := by
  rw [List.take_add_one, List.getElem?_eq_getElem h]; simp [List.getD, h]
theorem drop_cons (l : List Nat) (j : Nat) (h : j < l.length) : l.drop j = l.getD j 0 :: l.drop (j + 1) := by
  rw [List.drop_eq_getElem_cons h]; simp [List.getD, h]
theorem mem_getD {l : List Nat} {P : Nat → Prop} (hb : ∀ c ∈ l, P c) (j : Nat) (h : j < l.length) : P (l.getD j 0) := by
  have : l.getD j 0 = l[j] := by simp [List.getD, h]
  rw [this]; exact hb _ (List.getElem_mem h)

/-- Two slices that lie in unlike blocks. -/
def Apart (v u : Value) : Prop := ∀ k, v.ownBlock = some k → u.ownBlock ≠ some k
theorem Apart.symm {v u : Value} (h : Apart v u) : Apart u v := fun k hk hv => h k hv hk
theorem Laid.other {w w' : World} {base : Nat} {v v' u : Value} {n' n : Nat} {xs' xs : List Value} (h : Laid w base v w' v' n' xs') (hu : Buf w base u n xs) (ha : Apart v u) : Buf w' base u n xs ∧ Apart v' u := by
  refine ⟨hu.grown h.grown fun k hk e => ha k e.symm hk, fun k hk hk' => ?_⟩
  rcases h.own with e | e
  · exact ha k (by rw [← e]; exact hk) hk'
  · have h1 := e k hk
    have h2 := (hu.lt k hk').2
    omega

theorem slice_from (A : Option Addr) (n c k : Nat) (hk : k ≤ n) (W : World) :
    (Instr.slice 23 (.slice A n c) (some (.int .i64 (k : Int))) none none).run Try.prog W = .ok (.slice (if c = k then A else A.map (·.add k)) (n - k) (c - k)) W := by
  obtain ⟨i0, hi, hz0, hz1, hz2⟩ := info_parts Try.info5
  have he : Try.prog.elem 23 = 5 := by kernel_rfl
  rw [run_slice_l W 23 A n c (by rw [he]; exact Try.underlying23) .i64 (k : Int) (by omega) (by omega)]
  simp [he, sizeOf, typeInfo, hi, hz1, sliced, Result.andThen]

set_option maxHeartbeats 1000000 in
set_option maxRecDepth 100000 in
theorem lines_long (A : Option Addr) (n c : Nat) (w : World) (h40 : (40 : Int) < n) :
    Calls Try.prog 9 #[.slice A n c] w fun e w' => e = .returned (.bool true) ∧ Below w.heap.size w w' := by
  go_enter Try.func9, Try.ntmps9
  go_wp2_with fail
  refine (head_any _).mono ?_
  rintro e w1 ⟨rfl, hb1⟩
  go_wp2_with fail
  go_ret
  exact ⟨rfl, hb1⟩

set_option maxHeartbeats 1000000 in
set_option maxRecDepth 100000 in
theorem lines_walk (A : Option Addr) (n c : Nat) (l : List Nat) (w : World) (hr : Rd w w.heap.size A n (u64s l)) (hb : ∀ x ∈ l, (x : Int) ≤ 18446744073709551615) (hlen : l.length = n) (h40 : (n : Int) ≤ 40) :
    Calls Try.prog 9 #[.slice A n c] w fun e w' => e = .returned (.bool true) ∧ Below w.heap.size w w' := by
  have Hlen := Lib.hid hlen
  clear hlen
  have hd : decide (40 < (n : Int)) = false := by simp; omega
  go_enter Try.func9, Try.ntmps9
  go_wp2_with fail
  refine (head_any _).mono ?_
  rintro e w1 ⟨rfl, hb1⟩
  go_wp2_with fail
  have hba := (Buf.new w1 w1.heap.size 5 #[] (0, 0) (Nat.le_refl _) (by unfold maxLen; simp)).alloc (.cells #[] 5)
  have hbb : Buf ((w1.alloc (.cells #[] 5)).alloc (.cells #[] 5)) w1.heap.size (.slice (some ⟨w1.heap.size + 1, 0, none⟩) 0 0) 0 [] := by
    have := Buf.new (w1.alloc (.cells #[] 5)) w1.heap.size 5 #[] (0, 0) (by simp) (by unfold maxLen; simp)
    simpa using this
  have hbel : Below w1.heap.size w1 ((w1.alloc (.cells #[] 5)).alloc (.cells #[] 5)) := ((Below.refl _ _).alloc (Nat.le_refl _) _).alloc (by simp) _
  go_loopg [3, 4, 24] n (fun k va vb i wr => ∃ j, k = n - j ∧ j ≤ n ∧ i = .int .i64 j ∧ Below w1.heap.size w1 wr ∧ Apart va vb ∧ Buf wr w1.heap.size va (flP (l.take j)).length (bys (flP (l.take j))) ∧ Buf wr w1.heap.size vb (flC (l.take j)).length (bys (flC (l.take j))))
  case atStart =>
    refine ⟨0, rfl, Nat.zero_le _, rfl, hbel, ?_, hba, hbb⟩
    intro k hk hk'
    simp [Value.ownBlock] at hk hk'
    omega
  case round =>
    obtain ⟨j, hk, hj, rfl, hbw, hap, hA1, hB1⟩ := hrel
    have hK := Lib.hid hk
    clear hk
    have hw1 := hbw.size
    have hlP : (flP (l.take j)).length ≤ 400 := by
      have h1 := flP_len (l.take j) (fun c hc => hb c (List.mem_of_mem_take hc))
      have h2 : (l.take j).length ≤ j := List.length_take_le _ _
      omega
    have hlC : (flC (l.take j)).length ≤ 400 := by
      have h1 := flC_len (l.take j)
      have h2 : (l.take j).length ≤ j := List.length_take_le _ _
      omega
    have hBw : Below w.heap.size w wr := hb1.trans (hbw.mono hb1.size)
    have hrr := hr.below hBw
    by_cases hlt : j < n
    · have hlt' : (j : Int) < (n : Int) := by omega
      have hjl : j < l.length := by rw [Hlen.out]; exact hlt
      obtain ⟨g, off, u, rfl, hgB, hu, hcell⟩ := hrr.at_ (k := j) hlt
      rw [u64s_get l j hjl] at hu
      injection hu with hu
      subst hu
      have hx := mem_getD hb j hjl
      have HP := Lib.hid (show flP (l.take (j + 1)) = flP (l.take j) ++ M.putB (l.getD j 0) by rw [take_snoc l j hjl, flP_snoc])
      have HC := Lib.hid (show flC (l.take (j + 1)) = flC (l.take j) ++ M.compB (l.getD j 0) by rw [take_snoc l j hjl, flC_snoc])
      generalize l.getD j 0 = X at *
      go_wp2_with fail
      refine (put_any (X : Int) (by omega) hx _ w1.heap.size hA1 (by omega) hw1).mono ?_
      rintro e w2 ⟨va2, rfl, hl2⟩
      rw [Int.toNat_natCast] at hl2
      obtain ⟨hB2, hap2⟩ := hl2.other hB1 hap
      have hbw2 : Below w1.heap.size w1 w2 := hbw.trans (hl2.below hA1 hw1)
      go_wp2_with fail
      refine (compact_any (X : Int) (by omega) hx _ w1.heap.size hB2 (by omega) hbw2.size).mono ?_
      rintro e w3 ⟨vb3, rfl, hl3⟩
      rw [Int.toNat_natCast] at hl3
      obtain ⟨hA3, hap3⟩ := hl3.other hl2.buf hap2.symm
      have hbw3 : Below w1.heap.size w1 w3 := hbw2.trans (hl3.below hB2 hbw2.size)
      go_wp2
      go_roundg (n - (j + 1))
      case measure => have := hK.out; omega
      case rel =>
        refine ⟨j + 1, rfl, by omega, by go_num, hbw3, hap3.symm, ?_, ?_⟩
        · rw [HP.out, bys_app, List.length_append, M.putB_len]; exact hA3
        · rw [HC.out, bys_app, List.length_append, M.compB_len]; exact hl3.buf
    · have hje : j = n := by omega
      subst hje
      have htk : l.take j = l := List.take_of_length_le (by rw [Hlen.out]; omega)
      rw [htk] at hA1 hB1 hlP hlC
      clear htk hK hj hlt
      obtain ⟨AA, cA, rfl, hcA, hrA⟩ := hA1.slice
      obtain ⟨AB, cB, rfl, hcB, hrB⟩ := hB1.slice
      have hmA := hA1.cap_le
      have hmB := hB1.cap_le
      simp only [maxLen] at hmA hmB
      clear hA1 hB1 hap
      have Hcl := Lib.hid (show (flP l).length = (flP (l.drop 0)).length ∧ (flC l).length = (flC (l.drop 0)).length by simp)
      go_wp2_with fail
      go_loop [3, 4, 37] (fun va vb i => ∃ (q N1 N2 : Nat) (A1 A2 : Option Addr) (c1 c2 : Nat), q ≤ j ∧ i = .int .i64 q ∧ va = .slice A1 N1 c1 ∧ vb = .slice A2 N2 c2 ∧ N1 ≤ 400 ∧ N2 ≤ 400 ∧ N1 ≤ c1 ∧ N2 ≤ c2 ∧ c1 ≤ 9223372036854775807 ∧ c2 ≤ 9223372036854775807 ∧
        Rd wr wr.heap.size A1 N1 (bys (flP (l.drop q))) ∧ Rd wr wr.heap.size A2 N2 (bys (flC (l.drop q)))) (fun _ _ i => j - (intOf i).toNat)
      case atStart => exact ⟨0, _, _, AA, AB, cA, cB, Nat.zero_le _, rfl, rfl, rfl, hlP, hlC, hcA, hcB, hmA, hmB, hrA, hrB⟩
      case round =>
        obtain ⟨q, N1, N2, A1, A2, c1, c2, hq, rfl, rfl, rfl, hN1, hN2, hc1, hc2, hm1, hm2, hr1, hr2⟩ := hrel
        have hl1 : (flP (l.drop q)).length = N1 := by have := hr1.1; rwa [bys_len] at this
        have hl2 : (flC (l.drop q)).length = N2 := by have := hr2.1; rwa [bys_len] at this
        by_cases hqj : q < j
        · have hqj' : (q : Int) < (j : Int) := by omega
          have hql : q < l.length := by rw [Hlen.out]; exact hqj
          obtain ⟨g, off, u, rfl, hgB, hu, hcell⟩ := hrr.at_ (k := q) hqj
          rw [u64s_get l q hql] at hu
          injection hu with hu
          subst hu
          have hx := mem_getD hb q hql
          rw [drop_cons l q hql] at hr1 hr2 hl1 hl2
          rw [flP_cons] at hr1 hl1
          rw [flC_cons] at hr2 hl2
          generalize l.getD q 0 = X at *
          rw [List.length_append, M.putB_len] at hl1
          rw [List.length_append, M.compB_len] at hl2
          obtain ⟨g1, g2, g3⟩ := M.get_put X (by omega) (flP (l.drop (q + 1)))
          have hLd := M.lead_put X (by omega) (flP (l.drop (q + 1)))
          obtain ⟨k1, k2, k3⟩ := comp_facts X hx (flC (l.drop (q + 1)))
          have hs1 := slice_from A1 N1 c1 (M.sz X) (by omega) wr
          have hd1 := hr1.drop (M.sz X) c1 (by omega) hc1
          have hd2 := hr2.drop (1 + M.cs X) c2 (by omega) hc2
          have ed1 : (bys (M.putB X ++ flP (l.drop (q + 1)))).drop (M.sz X) = bys (flP (l.drop (q + 1))) := by
            rw [← bys_drop]; congr 1; rw [← M.putB_len X]; exact List.drop_left
          have ed2 : (bys (M.compB X ++ flC (l.drop (q + 1)))).drop (1 + M.cs X) = bys (flC (l.drop (q + 1))) := by
            rw [← bys_drop]; congr 1; rw [← M.compB_len X]; exact List.drop_left
          rw [ed1] at hd1
          rw [ed2] at hd2
          generalize (if c1 = M.sz X then A1 else A1.map (·.add (M.sz X))) = A1' at *
          have hlt1 : ∀ y ∈ M.putB X ++ flP (l.drop (q + 1)), y < 256 := fun y hy => (List.mem_append.1 hy).elim (M.putB_lt X y) (flP_lt _ y)
          have hlt2 : ∀ y ∈ M.compB X ++ flC (l.drop (q + 1)), y < 256 := fun y hy => (List.mem_append.1 hy).elim (M.compB_lt X y) (flC_lt _ y)
          have Hl1 := Lib.hid hl1
          have Hl2 := Lib.hid hl2
          have hN1s : M.sz X ≤ N1 := by omega
          have hN2s : 1 + M.cs X ≤ N2 := by omega
          clear hl1 hl2 ed1 ed2
          go_wp2_with fail
          refine (get_any A1 N1 c1 _ wr _ hr1 hlt1 (by omega) _ hLd).mono ?_
          rintro e w4 ⟨rfl, rfl⟩
          rw [g1, g2, g3]
          go_wp2_with fail
          refine (expand_any A2 N2 c2 _ wr _ hr2 hlt2 (by omega) hc2 (by omega)).mono ?_
          rintro e w4 ⟨rfl, rfl⟩
          rw [k1, k2, k3]
          go_wp2
          go_round
          case rel => exact ⟨q + 1, _, _, _, _, _, _, by omega, by go_num, rfl, rfl, by omega, by omega, by omega, by omega, by omega, by omega, hd1, hd2⟩
          case measure => simp [intOf]; omega
        · have hqe : q = j := by omega
          have e0 : l.drop q = [] := List.drop_eq_nil_of_le (by rw [Hlen.out]; omega)
          rw [e0] at hl1 hl2
          have z1 : N1 = 0 := by rw [← hl1]; rfl
          have z2 : N2 = 0 := by rw [← hl2]; rfl
          subst z1
          subst z2
          clear e0 hl1 hl2
          have hqj' : ¬ (q : Int) < (j : Int) := by omega
          go_wp2
          go_ret
          exact ⟨rfl, hBw⟩
end Go.Proofs.Ytkbdmbefhndlcaa
