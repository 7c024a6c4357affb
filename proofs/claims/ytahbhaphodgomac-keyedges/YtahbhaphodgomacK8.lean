/- Walks: Get. -/
import Derived.Test.YtahbhaphodgomacK7
namespace Go.Proofs.Ytahbhaphodgomac
set_option linter.unusedSimpArgs false
set_option linter.unusedVariables false
open Go.RowKit

def getE (e : Int) : Ending := .returned (.tuple #[ent ⟨#[]⟩ 0 false ⟨#[]⟩, .int .i64 0, .int .i64 e])
def zbox : Obj := .cells #[.string ⟨#[]⟩, .int .u64 0, .bool false, .string ⟨#[]⟩] 24

set_option maxHeartbeats 1000000 in
set_option maxRecDepth 100000 in
theorem get_bad1 (A : Option Addr) (n c : Nat) (bs : List Nat) (w : World) (B : Nat) (hB : B ≤ w.heap.size) (hr : Rd w B A n (bys bs)) (hb : ∀ c ∈ bs, c < 256) (hn : n ≤ 10000000) (hc : n ≤ c) (hcm : c ≤ maxLen) (h1 : tE bs ≠ 0) :
    Calls Try.prog 16 #[.slice A n c] w fun e w' => e = getE (tE bs) ∧ Below w.heap.size w w' := by
  have hr1 := hr.alloc hB zbox
  have HG := Lib.hid (getText_any A n c bs _ B hr1 hb hn hc hcm)
  have a1 := At4.new w (.string ⟨#[]⟩) (.int .u64 0) (.bool false) (.string ⟨#[]⟩) 24
  have hbel : Below w.heap.size w (w.alloc zbox) := (Below.refl _ _).alloc (Nat.le_refl _) _
  unfold zbox at *
  generalize tE bs = E at *
  have hne : ((E : Int) != 0) = true := by simp; omega
  unfold getE ent
  go_enter Try.func16, Try.ntmps16
  go_wp2_with fail
  refine HG.out.mono ?_
  rintro e w1 ⟨rfl, rfl⟩
  obtain ⟨p0, p1, p2, p3, q0, q1, q2, q3⟩ := a1
  go_wp2
  refine bodyPost_ret (v := .tuple #[.agg #[.string ⟨#[]⟩, .int .u64 0, .bool false, .string ⟨#[]⟩], .int .i64 0, .int .i64 (E : Int)]) (by simp [results, Try.results16, go_sem, p0, p1, p2, p3, q0, q1, q2, q3]) rfl ⟨rfl, ?_⟩
  exact hbel

set_option maxHeartbeats 1000000 in
set_option maxRecDepth 100000 in
theorem get_bad2 (A : Option Addr) (n c : Nat) (bs : List Nat) (w : World) (B : Nat) (hB : B ≤ w.heap.size) (hr : Rd w B A n (bys bs)) (hb : ∀ c ∈ bs, c < 256) (hn : n ≤ 10000000) (hc : n ≤ c) (hcm : c ≤ maxLen) (h1 : tE bs = 0) (h2 : tE (bs.drop (tN bs)) ≠ 0) :
    Calls Try.prog 16 #[.slice A n c] w fun e w' => e = getE (tE (bs.drop (tN bs))) ∧ Below w.heap.size w w' := by
  have hr1 := hr.alloc hB zbox
  have hbl : bs.length = n := by have := hr.1; rwa [bys_len] at this
  have htn := tN_le bs
  rw [hbl] at htn
  have HG := Lib.hid (getText_any A n c bs _ B hr1 hb hn hc hcm)
  have hrd := hr1.drop (tN bs) c htn hc
  rw [← bys_drop] at hrd
  have HG2 := Lib.hid (getText_any _ (n - tN bs) (c - tN bs) (bs.drop (tN bs)) _ B hrd (fun x hx => hb x (List.mem_of_mem_drop hx)) (by omega) (by omega) (by omega))
  obtain ⟨i0, hi, hz0, hz1, hz2⟩ := info_parts Try.info5
  have hsl := run_slice_l (P := Try.prog) (w.alloc zbox) 33 5 i0 Try.underlying33 hi hz1 A n c (tN bs) htn .i64 (tN bs : Int) rfl
  have a1 := At4.new w (.string ⟨#[]⟩) (.int .u64 0) (.bool false) (.string ⟨#[]⟩) 24
  have hbel : Below w.heap.size w (w.alloc zbox) := (Below.refl _ _).alloc (Nat.le_refl _) _
  unfold zbox at *
  rw [h1] at HG
  clear hrd h1
  generalize (if c = tN bs then A else A.map (·.add (tN bs))) = A' at *
  generalize tE (bs.drop (tN bs)) = E at *
  have hne : ((E : Int) != 0) = true := by simp; omega
  unfold getE ent
  go_enter Try.func16, Try.ntmps16
  go_wp2_with fail
  refine HG.out.mono ?_
  rintro e w1 ⟨rfl, rfl⟩
  go_wp2_with fail
  refine HG2.out.mono ?_
  rintro e w1 ⟨rfl, rfl⟩
  obtain ⟨p0, p1, p2, p3, q0, q1, q2, q3⟩ := a1
  go_wp2
  refine bodyPost_ret (v := .tuple #[.agg #[.string ⟨#[]⟩, .int .u64 0, .bool false, .string ⟨#[]⟩], .int .i64 0, .int .i64 (E : Int)]) (by simp [results, Try.results16, go_sem, p0, p1, p2, p3, q0, q1, q2, q3]) rfl ⟨rfl, ?_⟩
  exact hbel

set_option maxHeartbeats 1000000 in
set_option maxRecDepth 100000 in
theorem get_tail (A : Option Addr) (n c : Nat) (bs : List Nat) (w : World) (B : Nat) (hB : B ≤ w.heap.size) (hr : Rd w B A n (bys bs)) (hb : ∀ c ∈ bs, c < 256) (hn : n ≤ 10000000) (hc : n ≤ c) (hcm : c ≤ maxLen) (h1 : tE bs = 0) (h2 : tE (bs.drop (tN bs)) = 0)
    (K : ByteArray) (S : Int) (D : Bool) (eo : Int) (hK : K.size ≤ maxLen) (HO : ∀ w, Calls Try.prog 14 #[.string (strB (tS bs))] w fun r w' => r = .returned (.tuple #[ent K S D ⟨#[]⟩, .int .i64 eo]) ∧ Below w.heap.size w w')
    (z : Int) (hz : chk K.size S D (strB (tS (bs.drop (tN bs)))).size = z) (R : Ending)
    (hR : (if eo = 0 ∧ z = 0 then .returned (.tuple #[ent K S D (strB (tS (bs.drop (tN bs)))), .int .i64 ((tN bs + tN (bs.drop (tN bs)) : Nat) : Int), .int .i64 0]) else getE 2) = R) :
    Calls Try.prog 16 #[.slice A n c] w fun e w' => e = R ∧ Below w.heap.size w w' := by
  have hr1 := hr.alloc hB zbox
  have hbl : bs.length = n := by have := hr.1; rwa [bys_len] at this
  have htn := tN_le bs
  rw [hbl] at htn
  have htn2 := tN_le (bs.drop (tN bs))
  rw [List.length_drop, hbl] at htn2
  have HG := Lib.hid (getText_any A n c bs _ B hr1 hb hn hc hcm)
  have hrd := hr1.drop (tN bs) c htn hc
  rw [← bys_drop] at hrd
  have HG2 := Lib.hid (getText_any _ (n - tN bs) (c - tN bs) (bs.drop (tN bs)) _ B hrd (fun x hx => hb x (List.mem_of_mem_drop hx)) (by omega) (by omega) (by omega))
  have hvl : (strB (tS (bs.drop (tN bs)))).size ≤ maxLen := by
    rw [strB_size]
    have := tS_len (bs.drop (tN bs))
    rw [List.length_drop, hbl] at this
    omega
  have HCK := Lib.hid (check_any K S D (strB (tS (bs.drop (tN bs)))) hK hvl)
  rw [hz] at HCK
  obtain ⟨i0, hi, hz0, hz1, hz2⟩ := info_parts Try.info5
  have hsl := run_slice_l (P := Try.prog) (w.alloc zbox) 33 5 i0 Try.underlying33 hi hz1 A n c (tN bs) htn .i64 (tN bs : Int) rfl
  have a1 := At4.new w (.string ⟨#[]⟩) (.int .u64 0) (.bool false) (.string ⟨#[]⟩) 24
  have hbel : Below w.heap.size w (w.alloc zbox) := (Below.refl _ _).alloc (Nat.le_refl _) _
  have hs0 : (w.alloc zbox).heap.size = w.heap.size + 1 := by simp
  unfold zbox at *
  rw [h1] at HG
  rw [h2] at HG2
  clear hrd h1 h2 hz hvl hK
  have HR := Lib.hid hR
  have HO' := Lib.hid HO
  clear hR HO
  generalize (if c = tN bs then A else A.map (·.add (tN bs))) = A' at *
  generalize tN (bs.drop (tN bs)) = N2 at *
  generalize tN bs = N1 at *
  generalize tS (bs.drop N1) = V at *
  generalize tS bs = IN at *
  unfold ent at *
  go_enter Try.func16, Try.ntmps16
  go_wp2_with fail
  refine HG.out.mono ?_
  rintro e w1 ⟨rfl, rfl⟩
  go_wp2_with fail
  refine HG2.out.mono ?_
  rintro e w1 ⟨rfl, rfl⟩
  go_wp2_with fail
  refine (HO'.out _).mono ?_
  rintro e w2 ⟨rfl, hb2⟩
  have a2 := a1.below hb2 (by omega)
  have hbel2 := hbel.trans (hb2.mono (by omega))
  have hs2 := hb2.size
  have hlt2 : w.heap.size < w2.heap.size := a2.lt
  have a3 := a2.alloc (.cells #[.string K, .int .u64 S, .bool D, .string (strB V)] 24)
  have x3 := At4.new w2 (.string K) (.int .u64 S) (.bool D) (.string (strB V)) 24
  have hbel3 := hbel2.alloc (by omega) (.cells #[.string K, .int .u64 S, .bool D, .string (strB V)] 24)
  clear a1 hb2 hbel HG HG2 HO' hsl
  go_upto_region 9 with fail
  generalize w2.alloc (.cells #[.string K, .int .u64 S, .bool D, .string (strB V)] 24) = w3 at *
  by_cases he : eo = 0
  · subst he
    obtain ⟨x0, x1, x2, x3, _, _, _, _⟩ := id x3
    go_wp2_with fail
    refine (HCK.out _).mono ?_
    rintro e w4 ⟨rfl, hb4⟩
    have a4 := a3.below hb4 a3.lt
    have x4 := (At4.mk x0 x1 x2 x3 (by assumption) (by assumption) (by assumption) (by assumption) : At4 w3 w2.heap.size _ _ _ _).below hb4 (World.block_lt_of_cell? _ _ x0)
    have hbel4 := hbel3.trans (hb4.mono hbel3.size)
    clear x0 x1 x2 x3 a3 hb4
    obtain ⟨p0, p1, p2, p3, q0, q1, q2, q3⟩ := a4
    obtain ⟨x0, x1, x2, x3, _, _, _, _⟩ := x4
    by_cases hzz : z = 0
    · subst hzz
      have hadd : IntKind.i64.wrap ((N1 : Int) + (N2 : Int)) = (N1 : Int) + (N2 : Int) := by rw [IntWalk.i64_in _ (by omega)]
      go_wp2
      refine bodyPost_ret (v := .tuple #[.agg #[.string K, .int .u64 S, .bool D, .string (strB V)], .int .i64 ((N1 : Int) + (N2 : Int)), .int .i64 0]) (by simp [results, Try.results16, go_sem, p0, p1, p2, p3, q0, q1, q2, q3]) rfl ⟨?_, ?_⟩
      · rw [← HR.out, if_pos (by simp)]
        simp
      · exact below_set4 hbel4 (Nat.le_refl _) _ _ _ _
    · have hzn : (z != 0) = true := by simpa using hzz
      go_wp2
      refine bodyPost_ret (v := .tuple #[.agg #[.string ⟨#[]⟩, .int .u64 0, .bool false, .string ⟨#[]⟩], .int .i64 0, .int .i64 2]) (by simp [results, Try.results16, go_sem, p0, p1, p2, p3, q0, q1, q2, q3]) rfl ⟨?_, ?_⟩
      · rw [← HR.out, if_neg (fun h => hzz h.2)]; rfl
      · exact below_set4 hbel4 (Nat.le_refl _) _ _ _ _
  · have hne : (eo != 0) = true := by simpa using he
    obtain ⟨p0, p1, p2, p3, q0, q1, q2, q3⟩ := a3
    go_wp2
    refine bodyPost_ret (v := .tuple #[.agg #[.string ⟨#[]⟩, .int .u64 0, .bool false, .string ⟨#[]⟩], .int .i64 0, .int .i64 2]) (by simp [results, Try.results16, go_sem, p0, p1, p2, p3, q0, q1, q2, q3]) rfl ⟨?_, ?_⟩
    · rw [← HR.out, if_neg (fun h => he h.1)]; rfl
    · exact below_set4 hbel3 (Nat.le_refl _) _ _ _ _
end Go.Proofs.Ytahbhaphodgomac
