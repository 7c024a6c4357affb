/- Walks of the reference: Make. -/
import Derived.Test.YtkokbpifjpmhlaaDoorR3
namespace Go.Proofs.YtkokbpifjpmhlaaDoor
set_option linter.unusedSimpArgs false
set_option linter.unusedVariables false
open Go.RowKit

def PR : List Nat := [2, 3, 5, 7, 11, 13, 17, 19, 23, 29, 31, 37, 41, 43, 47, 53, 59, 61, 67, 71, 73, 79, 83, 89, 97, 101, 103, 107, 109, 113, 127, 131, 137, 139, 149, 151, 157, 163, 167, 173, 179, 181, 191, 193, 197, 199, 211, 223, 227, 229, 233, 239, 241, 251, 257, 263, 269, 271, 277, 281, 283, 293, 307, 311]
def cnt (x : Nat) : Nat := (PR.filter fun p => decide (p < x)).length
def pf (x d : Nat) : Bool := (List.range d).all fun e => decide (e < 2) || decide (x % e ≠ 0)
theorem pf_two (x : Nat) : pf x 2 = true := by simp [pf, List.range_succ]
theorem pf_succ (x d : Nat) (hd : 2 ≤ d) : pf x (d + 1) = (pf x d && decide (x % d ≠ 0)) := by
  unfold pf
  rw [List.range_succ, List.all_append]
  have : decide (d < 2) = false := by simp; omega
  simp [this]
theorem pf_cnt (x : Nat) (h1 : 2 ≤ x) (h2 : x < 312) : cnt (x + 1) = (if pf x x then cnt x + 1 else cnt x) ∧ (pf x x = true → PR.getD (cnt x) 0 = x) := by
  have : ∀ k : Fin 312, 2 ≤ k.val → (cnt (k.val + 1) = (if pf k.val k.val then cnt k.val + 1 else cnt k.val) ∧ (pf k.val k.val = true → PR.getD (cnt k.val) 0 = k.val)) := by decide +kernel
  exact this ⟨x, h2⟩ h1
theorem cnt_le (x : Nat) (h : x ≤ 312) (hc : cnt x < 64) : x < 312 := by
  have e : cnt 312 = 64 := by decide +kernel
  by_cases hx : x = 312
  · subst hx; omega
  · omega
theorem cnt_max (x : Nat) : cnt x ≤ 64 := by
  have := List.length_filter_le (fun p => decide (p < x)) PR
  have e : PR.length = 64 := rfl
  unfold cnt; omega
def ip2 (p : Nat) : Nat := if p < 4 then 1 else if p < 9 then 2 else if p < 16 then 3 else 4
def ip3 (p : Nat) : Nat := if p < 8 then 1 else if p < 27 then 2 else if p < 64 then 3 else if p < 125 then 4 else if p < 216 then 5 else 6
def r2 (i : Nat) : Nat := ip2 (PR.getD i 0) * 4294967296 + (S0.getD i 0).toNat
def r3 (i : Nat) : Nat := ip3 (PR.getD i 0) * 4294967296 + (K0.getD i 0).toNat
theorem r3_ok (i : Nat) (hi : i < 64) : r3 i ^ 3 ≤ PR.getD i 0 * 65536 ^ 6 ∧ PR.getD i 0 * 65536 ^ 6 < (r3 i + 1) ^ 3 ∧ PR.getD i 0 * 65536 ^ 6 < TOP ^ 3 ∧ ((r3 i : Nat) : Int) % 4294967296 = K0.getD i 0 := by
  have : ∀ k : Fin 64, r3 k.val ^ 3 ≤ PR.getD k.val 0 * 65536 ^ 6 ∧ PR.getD k.val 0 * 65536 ^ 6 < (r3 k.val + 1) ^ 3 ∧ PR.getD k.val 0 * 65536 ^ 6 < TOP ^ 3 ∧ ((r3 k.val : Nat) : Int) % 4294967296 = K0.getD k.val 0 := by decide +kernel
  exact this ⟨i, hi⟩
theorem r2_ok (i : Nat) (hi : i < 8) : r2 i ^ 2 ≤ PR.getD i 0 * 65536 ^ 4 ∧ PR.getD i 0 * 65536 ^ 4 < (r2 i + 1) ^ 2 ∧ PR.getD i 0 * 65536 ^ 4 < TOP ^ 2 ∧ ((r2 i : Nat) : Int) % 4294967296 = S0.getD i 0 := by
  have : ∀ k : Fin 8, r2 k.val ^ 2 ≤ PR.getD k.val 0 * 65536 ^ 4 ∧ PR.getD k.val 0 * 65536 ^ 4 < (r2 k.val + 1) ^ 2 ∧ PR.getD k.val 0 * 65536 ^ 4 < TOP ^ 2 ∧ ((r2 k.val : Nat) : Int) % 4294967296 = S0.getD k.val 0 := by decide +kernel
  exact this ⟨i, hi⟩

/-- The tables behind n of K and m of S. -/
def Tb (m n : Nat) : List Int := (List.range 72).map fun i => if i < 8 then (if i < m then S0.getD i 0 else 0) else (if i - 8 < n then K0.getD (i - 8) 0 else 0)
theorem Tb_len (m n : Nat) : (Tb m n).length = 72 := by simp [Tb]
theorem Tb_setK (m n : Nat) (hn : n < 64) : (us (Tb m n)).set (8 + n) (.int .u32 (K0.getD n 0)) = us (Tb m (n + 1)) := by
  unfold us
  rw [← List.map_set]
  congr 1
  apply List.ext_getElem (by simp [Tb])
  intro i h1 h2
  rw [List.getElem_set]
  by_cases e : 8 + n = i
  · subst e
    simp [Tb]
    omega
  · rw [if_neg e]
    simp only [Tb, List.getElem_map, List.getElem_range]
    by_cases h8 : i < 8
    · simp [h8]
    · have : (i - 8 < n + 1) = (i - 8 < n) := by rw [eq_iff_iff]; omega
      simp [h8, this]
theorem Tb_setS (m n : Nat) (hm : m < 8) : (us (Tb m n)).set m (.int .u32 (S0.getD m 0)) = us (Tb (m + 1) n) := by
  unfold us
  rw [← List.map_set]
  congr 1
  apply List.ext_getElem (by simp [Tb])
  intro i h1 h2
  rw [List.getElem_set]
  by_cases e : m = i
  · subst e
    simp [Tb, hm]
  · rw [if_neg e]
    simp only [Tb, List.getElem_map, List.getElem_range]
    have : (i < m + 1) = (i < m) := by rw [eq_iff_iff]; omega
    simp [this]
theorem Tb_there (m n k : Nat) (hk : k < 72) : ∃ u, (us (Tb m n))[k]? = some u := by
  have : k < (us (Tb m n)).length := by rw [us_len, Tb_len]; exact hk
  exact ⟨_, List.getElem?_eq_getElem this⟩
def Z72 : Array Value := (us (List.replicate 72 0)).toArray
theorem Tb_zero : Tb 0 0 = List.replicate 72 0 := by decide +kernel
def TAB : List Int := S0 ++ K0
theorem Tb_all : Tb 8 64 = TAB := by decide +kernel
theorem Tryd.zero47 : (Tryd.prog.info? 47).map (·.zero) = some (some (.agg Z72)) := by kernel_rfl
theorem Tryd.size47 : (Tryd.prog.info? 47).map (·.size) = some 72 := by kernel_rfl

theorem info_of {t : TypeId} {z : Value} {n : Nat} (h0 : (Tryd.prog.info? t).map (·.zero) = some (some z)) (h1 : (Tryd.prog.info? t).map (·.size) = some n) : ∃ i, Tryd.prog.info? t = some i ∧ i.zero = some z ∧ i.size = n := by
  cases h : Tryd.prog.info? t with
  | none => simp [h] at h0
  | some i => exact ⟨i, rfl, by simpa [h] using h0, by simpa [h] using h1⟩
theorem Tryd.size44 : (Tryd.prog.info? 44).map (·.size) = some 8 := by kernel_rfl
theorem Tryd.zero44 : (Tryd.prog.info? 44).map (·.zero) = some (some (.agg Z8)) := by kernel_rfl
theorem build31 (w : World) : (Instr.build 47 #[]).run Tryd.prog w = .ok (.agg Z72) w := by
  obtain ⟨i, hi, hz, hs⟩ := info_of Tryd.zero47 Tryd.size47
  obtain ⟨i8, hi8, hz8, hs8⟩ := info_of Tryd.zero44 Tryd.size44
  obtain ⟨i9, hi9, hz9, hs9⟩ := info_of Tryd.zero45 Tryd.size45
  simp [Instr.build, zeroValue, typeInfo, sizeOf, hi, hz, run_underlying Tryd.underlying47, hi8, hi9, hs8, hs9, Value.cells, Instr.fill]
theorem zv31 (w : World) : (zeroValue 47).run Tryd.prog w = .ok (.agg Z72) w := by
  obtain ⟨i, hi, hz, hs⟩ := info_of Tryd.zero47 Tryd.size47
  simp [zeroValue, typeInfo, hi, hz]
structure MkS (w wr : World) (n : Nat) : Prop where
  res : Blk wr w.heap.size 47 Z72
  tab : Blk wr (w.heap.size + 1) 47 (us (Tb (min n 8) n)).toArray
  below : Below w.heap.size w wr

set_option maxHeartbeats 1000000 in
set_option maxRecDepth 100000 in
theorem make_any (w : World) :
    Calls Tryd.prog 13 #[] w fun e w' => e = .returned (.agg (us TAB).toArray) ∧ Below w.heap.size w w' := by
  have hT1 := Lib.hid (there_new (w.alloc (.cells Z72 47)) Z72 47 Z72.size rfl)
  have hM0 : MkS w (((w.alloc (.cells Z72 47)).alloc (.cells Z72 47)).setCells (w.heap.size + 1) 0 Z72.toList) 0 := by
    have e : (us (Tb (min 0 8) 0)).toArray = Z72 := by rw [show min 0 8 = 0 from rfl, Tb_zero]; rfl
    refine ⟨Blk.setCells (heap_alloc2_old w _ _) _ _ _ (by omega), ?_, Below.setCells' (((Below.refl _ _).alloc (Nat.le_refl _) _).alloc (by simp) _) _ _ (by omega) _⟩
    rw [e]
    exact Blk.stored (heap_alloc2_new w _ _) _ (by simp)
  have hbd := zv31
  have hmin0 : min 0 8 = 0 := rfl
  go_enter Tryd.func13, Tryd.ntmps13
  go_wp2_with (first
    | (refine wpList_of_wp rfl fun K hK => wp_alloc_arr 47 rfl Z72 Tryd.zero47 (hK _ _ ?_); (try simp only [World.size_alloc]))
    | (refine wpList_store_mid rfl 47 (.tmp 1) (.tmp 6) rfl (w.heap.size + 1) 0 Z72 rfl rfl (by simpa using hT1.out) Tryd.size47 (by kernel_rfl) ?_))
  clear hbd
  go_loopg [2, 3] 398 (fun k vn vx wr => ∃ x n : Nat, k = 400 - x ∧ 2 ≤ x ∧ x ≤ 312 ∧ Hid (n = cnt x) ∧ n ≤ 64 ∧ vx = .int .i64 x ∧ vn = .int .i64 (n : Int) ∧ MkS w wr n)
  case atStart => exact ⟨2, 0, rfl, by omega, by omega, Lib.hid (by decide +kernel), by omega, rfl, rfl, hM0⟩
  case round =>
    clear hM0
    obtain ⟨x, n, hk, hx2, hx3, hcn, hn64, rfl, rfl, hS⟩ := hrel
    have hM := Lib.hid hk
    clear hk
    by_cases hlt : n < 64
    · have hlt' : (n : Int) < 64 := by omega
      have hx4 : x < 312 := cnt_le x hx3 (by rw [← hcn.out]; exact hlt)
      obtain ⟨c1, c2⟩ := pf_cnt x hx2 hx4
      have C1 := Lib.hid c1
      have C2 := Lib.hid c2
      clear c1 c2
      go_wp2_with fail
      go_loopg [4, 5] (x - 2) (fun k vp vd wr' => ∃ d, k = x - d ∧ 2 ≤ d ∧ d ≤ x ∧ vd = .int .i64 (d : Int) ∧ vp = .bool (pf x d) ∧ wr = wr')
      case atStart => exact ⟨2, rfl, by omega, hx2, rfl, by rw [pf_two], rfl⟩
      case round =>
        obtain ⟨d, hk, hd2, hdx, rfl, rfl, rfl⟩ := hrel
        have hM2 := Lib.hid hk
        clear hk
        by_cases hld : d < x
        · have hld' : (d : Int) < (x : Int) := by omega
          have hps := Lib.hid (pf_succ x d hd2)
          have hmod : (x : Int) % (d : Int) = ((x % d : Nat) : Int) := by simp
          by_cases hz : x % d = 0
          · have hz' : (((x : Int) % (d : Int)) == 0) = true := by rw [hmod, hz]; rfl
            have HPF := Lib.hid (show pf x (d + 1) = false by rw [hps.out, hz]; simp)
            clear hmod
            go_wp2_with fail
            go_roundg (x - (d + 1))
            case measure => have := hM2.out; omega
            case rel => exact ⟨d + 1, rfl, by omega, by omega, by go_num, by rw [HPF.out], rfl⟩
          · have hz' : (((x : Int) % (d : Int)) == 0) = false := by rw [hmod, beq_eq_false_iff_ne]; omega
            have HPF := Lib.hid (show pf x (d + 1) = pf x d by rw [hps.out]; simp [hz])
            clear hmod
            go_wp2_with fail
            go_roundg (x - (d + 1))
            case measure => have := hM2.out; omega
            case rel => exact ⟨d + 1, rfl, by omega, by omega, by go_num, by rw [HPF.out], rfl⟩
        · obtain rfl : x = d := by omega
          have hdd : decide ((x : Int) < (x : Int)) = false := by simp
          cases hpf : pf x x
          · have HPF := Lib.hid hpf
            have HC := Lib.hid (show n = cnt (x + 1) by rw [C1.out, HPF.out, hcn.out]; rfl)
            clear hpf
            go_wp2_with fail
            go_roundg (400 - (x + 1))
            case measure => have := hM.out; omega
            case rel => exact ⟨x + 1, n, rfl, by omega, by omega, HC, hn64, by go_num, rfl, hS⟩
          · have HPF := Lib.hid hpf
            have HC := Lib.hid (show n + 1 = cnt (x + 1) by rw [C1.out, HPF.out, hcn.out]; rfl)
            have HX := Lib.hid (show PR.getD n 0 = x by rw [hcn.out]; exact C2.out HPF.out)
            clear hpf
            obtain ⟨a1, a2, a3, a4⟩ := r3_ok n hlt
            rw [HX.out] at a1 a2 a3
            have H3 := Lib.hid (fun (wx : World) => root3_any (x : Int) x (r3 n) rfl (by omega) a1 a2 a3 wx)
            have HK3 := Lib.hid a4
            have hset := Lib.hid (Tb_setK (min n 8) n hlt)
            clear a1 a2 a3 a4
            obtain ⟨uk, huk⟩ := Tb_there (min n 8) n (8 + n) (by omega)
            go_wp2_with fail
            refine (H3.out _).mono ?_
            rintro e w1 ⟨rfl, hb1⟩
            rw [HK3.out]
            have hS1 : MkS w w1 n := ⟨hS.res.below hb1 hS.res.lt, hS.tab.below hb1 hS.tab.lt, hS.below.trans (hb1.mono hS.below.size)⟩
            have q1 := hS1.tab.cell (8 + n) uk huk
            have q2 := hS1.tab.cold (8 + n)
            have b8 : (0 : Int) ≤ (n : Int) := by omega
            have hT2 := hS1.tab.set (8 + n) (.int .u32 (K0.getD n 0))
            rw [List.setIfInBounds_toArray, hset.out] at hT2
            have hR2 := hS1.res.other ⟨w.heap.size + 1, 8 + n, none⟩ (.int .u32 (K0.getD n 0)) (by simp)
            have hB2 : Below w.heap.size w (w1.setCell ⟨w.heap.size + 1, 8 + n, none⟩ (.int .u32 (K0.getD n 0))) := hS1.below.setCell (by simp) _
            generalize K0.getD n 0 = kn at *
            have HK3 := Lib.hid HK3
            clear hS1 hS
            by_cases h8 : n < 8
            · have h8' : (n : Int) < 8 := by omega
              obtain ⟨a1, a2, a3, a4⟩ := r2_ok n h8
              rw [HX.out] at a1 a2 a3
              have H2 := Lib.hid (fun (wx : World) => root2_any (x : Int) x (r2 n) rfl (by omega) a1 a2 a3 wx)
              have HK2 := Lib.hid a4
              clear a1 a2 a3 a4
              rw [show min n 8 = n by omega] at hT2
              have hset2 := Lib.hid (Tb_setS n (n + 1) h8)
              obtain ⟨us2, hus⟩ := Tb_there n (n + 1) n (by omega)
              go_wp2_with fail
              clear q1 q2
              generalize w1.setCell ⟨w.heap.size + 1, 8 + n, none⟩ (.int .u32 kn) = w2 at *
              refine (H2.out _).mono ?_
              rintro e w3 ⟨rfl, hb3⟩
              rw [HK2.out]
              have q3 := (hT2.below hb3 hT2.lt).cell n us2 hus
              have q4 := (hT2.below hb3 hT2.lt).cold n
              have hT3 := (hT2.below hb3 hT2.lt).set n (.int .u32 (S0.getD n 0))
              rw [List.setIfInBounds_toArray, hset2.out] at hT3
              have hR3 := (hR2.below hb3 hR2.lt).other ⟨w.heap.size + 1, n, none⟩ (.int .u32 (S0.getD n 0)) (by simp)
              have hB3 : Below w.heap.size w (w3.setCell ⟨w.heap.size + 1, n, none⟩ (.int .u32 (S0.getD n 0))) := (hB2.trans (hb3.mono hB2.size)).setCell (by simp) _
              generalize S0.getD n 0 = sn at *
              clear hT2 hR2 hB2 hb3
              go_wp2_with fail
              go_roundg (400 - (x + 1))
              case measure => have := hM.out; omega
              case rel => exact ⟨x + 1, n + 1, rfl, by omega, by omega, HC, by omega, by go_num, by go_num, hR3, by rw [show min (n + 1) 8 = n + 1 by omega]; exact hT3, hB3⟩
            · have h8' : decide ((n : Int) < 8) = false := by simp; omega
              go_wp2_with fail
              go_roundg (400 - (x + 1))
              case measure => have := hM.out; omega
              case rel => exact ⟨x + 1, n + 1, rfl, by omega, by omega, HC, by omega, by go_num, by go_num, hR2, by rw [show min (n + 1) 8 = min n 8 by omega]; exact hT2, hB2⟩
    · obtain rfl : n = 64 := by omega
      have hdec : decide (((64 : Nat) : Int) < 64) = false := by decide
      have hres := hS.res
      have htab := hS.tab
      have hbel := hS.below
      rw [show min 64 8 = 8 from rfl, Tb_all] at htab
      clear hS
      have hal : TAB.length = 72 := by decide
      obtain ⟨LL, hLL⟩ : ∃ LL, TAB = LL := ⟨_, rfl⟩
      rw [hLL] at htab hal
      have HLL := Lib.hid hLL
      have hsz : (us LL).length = 72 := by rw [us_len]; exact hal
      have HSZ2 := Lib.hid hsz
      have HR := Lib.hid htab.range
      have HTH := Lib.hid (show wr.there w.heap.size 0 (us LL).toArray.size by
        have := hres.there
        rw [show (us LL).toArray.size = 72 from hsz]; exact this)
      clear hsz hal hLL htab hres
      go_wp2_with (first
        | (refine wpList_load_mid rfl 47 (.tmp 1) rfl (w.heap.size + 1) 0 rfl (us LL) _ HR.out Tryd.underlying47 rfl (by rw [HSZ2.out]; exact Tryd.size47) ?_)
        | (refine wpList_store_mid rfl 47 (.tmp 0) (.tmp 37) rfl w.heap.size 0 (us LL).toArray rfl rfl HTH.out (by rw [show (us LL).toArray.size = 72 from HSZ2.out]; exact Tryd.size47) (all_oneCell_toArray (us_one _)) ?_))
      exact bodyPost_ret (results_arr rfl _ _ w.heap.size (us LL) _ rfl (World.rangeAt_setCells_same _ _ _ _ (by simpa using HTH.out)) Tryd.underlying47 rfl (by rw [HSZ2.out]; exact Tryd.size47)) rfl ⟨by rw [HLL.out], Below.setCells' hbel _ _ (Nat.le_refl _) _⟩
end Go.Proofs.YtkokbpifjpmhlaaDoor
