/- Walks: crc.More, crc.Sum. -/
import Derived.Test.YtajgmadohhagkaaDoorLaid
import Derived.Test.YtajgmadohhagkaaDoorBuf
import Derived.WalkSpells
import Derived.WalkLawsBesides
import Derived.Lib.Hide
import Derived.Lib.SlBytesConst
namespace Go.Proofs.YtajgmadohhagkaaDoor
set_option linter.unusedSimpArgs false
set_option linter.unusedVariables false
open Go.RowKit

def tab (x : Nat) : Nat := tabN.getD x 0
def step4 (r : Nat) : Nat := r / 16 ^^^ tab (r % 16)
def byteStep (r c : Nat) : Nat := step4 (step4 (r ^^^ c))
def crcR (r : Nat) (bs : List Nat) : Nat := bs.foldl byteStep r

def ones : Nat := 4294967295
def nt (s : Nat) : Nat := ones ^^^ s
theorem ones_lt : ones < 4294967296 := by unfold ones; omega
theorem ones_cast : ((ones : Nat) : Int) = IntKind.u32.max := by decide
theorem xor_xor (a s : Nat) : a ^^^ (a ^^^ s) = s := by rw [← Nat.xor_assoc, Nat.xor_self, Nat.zero_xor]

theorem xor_lt (a b : Nat) (ha : a < 4294967296) (hb : b < 4294967296) : a ^^^ b < 4294967296 := by
  have e : (4294967296 : Nat) = 2 ^ 32 := by decide
  rw [e] at ha hb ⊢
  exact Nat.xor_lt_two_pow ha hb
theorem nt_lt (s : Nat) (h : s < 4294967296) : nt s < 4294967296 := by
  unfold nt
  exact xor_lt _ _ ones_lt h
theorem nt_eq (s : Nat) : nt s = ones ^^^ s := by rw [nt]
theorem nt_nt (s : Nat) : nt (nt s) = s := by rw [nt_eq, nt_eq, xor_xor]
theorem tab_lt (x : Nat) (h : x < 16) : tab x < 4294967296 := by
  have h16 : x = 0 ∨ x = 1 ∨ x = 2 ∨ x = 3 ∨ x = 4 ∨ x = 5 ∨ x = 6 ∨ x = 7 ∨ x = 8 ∨ x = 9 ∨ x = 10 ∨ x = 11 ∨ x = 12 ∨ x = 13 ∨ x = 14 ∨ x = 15 := by omega
  rcases h16 with rfl | rfl | rfl | rfl | rfl | rfl | rfl | rfl | rfl | rfl | rfl | rfl | rfl | rfl | rfl | rfl <;> (unfold tab tabN; simp only [List.getD_cons_zero, List.getD_cons_succ]; omega)
theorem step4_lt (r : Nat) (h : r < 4294967296) : step4 r < 4294967296 := by
  unfold step4
  exact xor_lt _ _ (by omega) (tab_lt _ (by omega))
theorem byteStep_lt (r c : Nat) (h : r < 4294967296) (hc : c < 256) : byteStep r c < 4294967296 := by
  unfold byteStep
  exact step4_lt _ (step4_lt _ (xor_lt _ _ h (by omega)))
theorem crcR_lt : ∀ (bs : List Nat) (r : Nat), r < 4294967296 → (∀ c ∈ bs, c < 256) → crcR r bs < 4294967296
  | [], r, h, _ => h
  | c :: l, r, h, hb => crcR_lt l (byteStep r c) (byteStep_lt r c h (hb c (by simp))) (fun c hc => hb c (by simp [hc]))
theorem crcR_snoc (r : Nat) (l : List Nat) (c : Nat) : crcR r (l ++ [c]) = byteStep (crcR r l) c := by simp [crcR, List.foldl_append]
theorem crcR_app (r : Nat) (a b : List Nat) : crcR r (a ++ b) = crcR (crcR r a) b := by simp [crcR, List.foldl_append]

theorem nt_u32 (s : Nat) (hs : (s : Int) ≤ 4294967295) : bits BinOp.xor IntKind.u32 IntKind.u32.max (s : Int) = ((nt s : Nat) : Int) := by
  rw [← ones_cast, u32_xor_nat _ _ ones_lt (by omega)]
  rfl
theorem take_snoc (l : List Nat) (j : Nat) (h : j < l.length) : l.take (j + 1) = l.take j ++ [l.getD j 0] := by
  rw [List.take_add_one, List.getElem?_eq_getElem h]; simp [List.getD, h]

set_option maxHeartbeats 400000 in
set_option maxRecDepth 100000 in
theorem more_any (s : Nat) (hs : (s : Int) ≤ 4294967295) (A : Option Addr) (n c : Nat) (bs : List Nat) (w : World) (B : Nat) (hr : Rd w B A n (bys bs)) (hb : ∀ c ∈ bs, c < 256) (hn : n ≤ 1000000000) (ht : TabAt w) :
    Calls Tryd.prog 37 #[.int .u32 (s : Int), .slice A n c] w fun e w' => e = .returned (.int .u32 ((nt (crcR (nt s) bs) : Nat) : Int)) ∧ w = w' := by
  have hbl : bs.length = n := by have := hr.1; rwa [bys_len] at this
  have Hbl := Lib.hid hbl
  clear hbl
  have HT := Lib.hid ht
  clear ht
  have hnt := nt_lt s (by omega)
  go_enter Tryd.func37, Tryd.ntmps37
  go_wp2
  rw [nt_u32 s hs]
  go_loop [5, 12] (fun y i => ∃ j : Nat, j ≤ n ∧ i = .int .i64 j ∧ y = .int .u32 ((crcR (nt s) (bs.take j) : Nat) : Int)) (fun _ i => n - (intOf i).toNat)
  case atStart => exact ⟨0, Nat.zero_le _, rfl, rfl⟩
  case round =>
    obtain ⟨j, hj, rfl, rfl⟩ := hrel
    have hlt := crcR_lt (bs.take j) (nt s) hnt (fun c hc => hb c (List.mem_of_mem_take hc))
    by_cases hja : j < n
    · obtain ⟨g, off, u, rfl, hgB, hu, hcell⟩ := hr.at_ (k := j) hja
      rw [bys_get bs j (by rw [Hbl.out]; omega)] at hu
      injection hu with hu
      subst hu
      have hjn : (j : Int) < (n : Int) := by omega
      have hS := Lib.hid (show crcR (nt s) (bs.take (j + 1)) = byteStep (crcR (nt s) (bs.take j)) (bs.getD j 0) by rw [take_snoc bs j (by rw [Hbl.out]; exact hja), crcR_snoc])
      have hc1 : bs.getD j 0 < 256 := by
        have : bs.getD j 0 = bs[j]'(by rw [Hbl.out]; exact hja) := by simp [List.getD, show j < bs.length by rw [Hbl.out]; exact hja]
        rw [this]; exact hb _ (List.getElem_mem _)
      generalize bs.getD j 0 = cb at *
      generalize crcR (nt s) (bs.take j) = r at *
      have hr0 := Lib.hid hlt
      have hx0 : r ^^^ cb < 4294967296 := xor_lt _ _ hlt (by omega)
      have hx1 := step4_lt _ hx0
      have hx2 := step4_lt _ hx1
      have c0 := HT.out.2 ((r ^^^ cb) % 16) (by omega)
      have c1 := HT.out.2 (step4 (r ^^^ cb) % 16) (by omega)
      have t0 := tab_lt ((r ^^^ cb) % 16) (by omega)
      have t1 := tab_lt (step4 (r ^^^ cb) % 16) (by omega)
      have e0 := u32_xor_nat r cb hlt (by omega)
      have e1 := u32_xor_nat ((r ^^^ cb) / 16) (tab ((r ^^^ cb) % 16)) (by omega) t0
      have e2 := u32_xor_nat (step4 (r ^^^ cb) / 16) (tab (step4 (r ^^^ cb) % 16)) (by omega) t1
      have E : Hid (byteStep r cb = step4 (step4 (r ^^^ cb))) := Lib.hid rfl
      rw [show (r ^^^ cb) / 16 ^^^ tab ((r ^^^ cb) % 16) = step4 (r ^^^ cb) from rfl] at e1
      rw [show step4 (r ^^^ cb) / 16 ^^^ tab (step4 (r ^^^ cb) % 16) = step4 (step4 (r ^^^ cb)) from rfl] at e2
      rw [show tabN.getD ((r ^^^ cb) % 16) 0 = tab ((r ^^^ cb) % 16) from rfl] at c0
      rw [show tabN.getD (step4 (r ^^^ cb) % 16) 0 = tab (step4 (r ^^^ cb) % 16) from rfl] at c1
      generalize r ^^^ cb = x0 at *
      generalize tab (x0 % 16) = y0 at *
      generalize step4 x0 = x1 at *
      generalize tab (x1 % 16) = y1 at *
      generalize step4 x1 = x2 at *
      have q0 : (x0 : Int) ≤ 4294967295 := by omega
      have q1 : (x1 : Int) ≤ 4294967295 := by omega
      have qd0 : ((x0 / 16 : Nat) : Int) = (x0 : Int) / 16 := by omega
      have qd1 : ((x1 / 16 : Nat) : Int) = (x1 : Int) / 16 := by omega
      rw [qd0] at e1
      rw [qd1] at e2
      have qc : (cb : Int) ≤ 255 := by omega
      clear hlt hx0 hx1 hx2 t0 t1 qd0 qd1 hnt hc1
      go_wp2
      go_round
      case rel =>
        refine ⟨j + 1, by omega, by go_num, ?_⟩
        rw [hS.out, E.out]
      case measure => simp [intOf]; omega
    · have hje : j = n := by omega
      have hall : bs.take j = bs := List.take_of_length_le (by rw [Hbl.out]; omega)
      rw [hall]
      have hlt2 : crcR (nt s) bs < 4294967296 := by rw [hall] at hlt; exact hlt
      have en := nt_u32 (crcR (nt s) bs) (by omega)
      generalize hrr : crcR (nt s) bs = r at *
      have HR := Lib.hid hrr
      clear hrr
      have hd : decide ((j : Int) < (n : Int)) = false := by simp; omega
      have hd2 : (n : Int) ≤ (j : Int) := by omega
      clear hlt hlt2 hnt hall hje
      go_wp2
      go_ret
      exact ⟨by rw [HR.out]; rfl, rfl⟩

theorem sum_any (A : Option Addr) (n c : Nat) (bs : List Nat) (w : World) (B : Nat) (hr : Rd w B A n (bys bs)) (hb : ∀ c ∈ bs, c < 256) (hn : n ≤ 1000000000) (ht : TabAt w) :
    Calls Tryd.prog 29 #[.slice A n c] w fun e w' => e = .returned (.int .u32 ((nt (crcR (nt 0) bs) : Nat) : Int)) ∧ w = w' := by
  have HT := Lib.hid ht
  clear ht
  generalize hq : nt (crcR (nt 0) bs) = q at *
  have HQ := Lib.hid hq
  clear hq
  go_enter Tryd.func29, Tryd.ntmps29
  go_wp2_with fail
  refine (more_any 0 (by omega) A n c bs w B hr hb hn HT.out).mono ?_
  rintro e w2 ⟨rfl, rfl⟩
  rw [HQ.out]
  go_wp2
  go_ret
  exact ⟨rfl, rfl⟩

end Go.Proofs.YtajgmadohhagkaaDoor
