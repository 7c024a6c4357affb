/- Walks: the search's closure, slices.BinarySearchFunc at pairs, From. -/
import Derived.Test.YtalcdmpjpphopaaPC
import Derived.Test.YtalcdmpjpphopaaPE
import Derived.Laws.Strings
namespace Go.Proofs.Ytalcdmpjpphopaa
set_option linter.unusedSimpArgs false
set_option linter.unusedVariables false
open Go.RowKit

theorem run_sliceN_l {P : Program} (w : World) (t e : TypeId) (i : TypeInfo) (s : Nat) (ht : P.underlying t = some (.slice e)) (hi : P.info? e = some i) (hs : i.size = s) (A : Option Addr) (n c l : Nat) (hl : l ≤ n) (kl : IntKind) (L : Int) (hL : L = l) :
    (Instr.slice t (.slice A n c) (some (.int kl L)) none none).run P w = .ok (.slice (if c = l then A else A.map (·.add (l * s))) (n - l) (c - l)) w := by
  subst hL
  have e2 : (Instr.sliceBound (.int kl (l : Int)) n .sliceB).run P w = .ok l w := by simp [Instr.sliceBound, asIntOf]; omega
  simp [Instr.slice, run_underlying ht, Instr.sliceBounds, e2, sizeOf, typeInfo, hi, hs]

def cS (a b : ByteArray) : Int := if Op.bytesLess a.toList b.toList = true then -1 else if (a.toList == b.toList) = true then 0 else 1
set_option maxHeartbeats 400000 in
theorem nanS_any (a : ByteArray) (w : World) : Calls Try.prog 42 #[.string a] w fun e w' => e = .returned (.bool false) ∧ w = w' := by
  go_enter Try.func42, Try.ntmps42
  go_wp2
  go_ret
  simp
set_option maxHeartbeats 400000 in
theorem compS_any (a b : ByteArray) (w : World) : Calls Try.prog 32 #[.string a, .string b] w fun e w' => e = .returned (.int .i64 (cS a b)) ∧ w = w' := by
  unfold cS
  cases h1 : Op.bytesLess a.toList b.toList
  · cases h2 : (a.toList == b.toList)
    · go_enter Try.func32, Try.ntmps32
      go_wp2_with (go_at_call 42; refine (nanS_any _ _).mono ?_; rintro e w' ⟨rfl, rfl⟩)
      go_ret
      exact ⟨rfl, rfl⟩
    · go_enter Try.func32, Try.ntmps32
      go_wp2_with (go_at_call 42; refine (nanS_any _ _).mono ?_; rintro e w' ⟨rfl, rfl⟩)
      go_ret
      exact ⟨rfl, rfl⟩
  · go_enter Try.func32, Try.ntmps32
    go_wp2_with (go_at_call 42; refine (nanS_any _ _).mono ?_; rintro e w' ⟨rfl, rfl⟩)
    go_ret
    exact ⟨rfl, rfl⟩
theorem cS_neg (a b : ByteArray) : (cS a b < 0) ↔ Op.bytesLess a.toList b.toList = true := by
  unfold cS
  split
  · next h => simp [h]
  · next h => split <;> simp [h]

set_option maxHeartbeats 400000 in
theorem clo_any (p : Pr) (s : ByteArray) (w : World) : Calls Try.prog 31 #[prV p, .string s] w fun e w' => e = .returned (.int .i64 (cS (strB p.1) s)) ∧ Below w.heap.size w w' := by
  unfold prV
  have hc := fun W => compS_any (strB p.1) s W
  generalize cS (strB p.1) s = z at *
  go_enter Try.func31, Try.ntmps31
  go_wp2_with fail
  refine (hc _).mono ?_
  rintro e w2 ⟨rfl, rfl⟩
  go_wp2
  go_ret
  exact ⟨rfl, (Below.refl _ _).alloc (Nat.le_refl _) _⟩

/-- Whether a pair is ahead of a name. -/
def ahP (nm : List Nat) (p : Pr) : Bool := Op.bytesLess (strB p.1).toList (strB nm).toList
/-- All ahead of a name stand in front. -/
def Mono (L : List Pr) (nm : List Nat) : Prop := ∀ (i j : Nat) (p q : Pr), i ≤ j → L[i]? = some p → L[j]? = some q → ahP nm q = true → ahP nm p = true
def lob (L : List Pr) (nm : List Nat) : Nat := (L.takeWhile (ahP nm)).length
theorem lob_le (L : List Pr) (nm : List Nat) : lob L nm ≤ L.length := (List.takeWhile_sublist _).length_le
theorem lob_lt (nm : List Nat) : ∀ (L : List Pr) (i : Nat) (y : Pr), i < lob L nm → L[i]? = some y → ahP nm y = true
  | [], i, y, h, hy => by simp at hy
  | z :: L, i, y, h, hy => by
    unfold lob at h
    rw [List.takeWhile_cons] at h
    split at h
    · rename_i hz
      cases i with
      | zero => simp at hy; subst hy; simpa using hz
      | succ i => exact lob_lt nm L i y (by unfold lob; simpa using h) (by simpa using hy)
    · simp at h
theorem lob_ge (nm : List Nat) : ∀ (L : List Pr) (y : Pr), L[lob L nm]? = some y → ahP nm y = false
  | [], y, hy => by simp at hy
  | z :: L, y, hy => by
    unfold lob at hy
    rw [List.takeWhile_cons] at hy
    split at hy
    · exact lob_ge nm L y (by unfold lob; simpa using hy)
    · rename_i hz
      simp at hy
      subst hy
      simpa using hz
theorem lob_eq (L : List Pr) (nm : List Nat) (i : Nat) (hi : i ≤ L.length) (h1 : ∀ m y, m < i → L[m]? = some y → ahP nm y = true) (h2 : ∀ y, L[i]? = some y → ahP nm y = false) : lob L nm = i := by
  have hle := lob_le L nm
  rcases Nat.lt_trichotomy (lob L nm) i with h | h | h
  · have hl : lob L nm < L.length := by omega
    have e1 := h1 _ _ h (List.getElem?_eq_getElem hl)
    have e2 := lob_ge nm L _ (List.getElem?_eq_getElem hl)
    rw [e1] at e2; cases e2
  · exact h
  · have hl : i < L.length := by omega
    have e1 := lob_lt nm L i _ h (List.getElem?_eq_getElem hl)
    have e2 := h2 _ (List.getElem?_eq_getElem hl)
    rw [e1] at e2; cases e2

set_option maxHeartbeats 4000000 in
set_option maxRecDepth 100000 in
theorem bs_any (A : Option Addr) (c : Nat) (L : List Pr) (nm : List Nat) (w : World) (hr : RdN w w.heap.size 2 A L.length (prC2 L)) (hl : (L.length : Int) ≤ 1000000) (hm : Mono L nm) :
    Calls Try.prog 30 #[.slice A L.length c, .string (strB nm), .func (.func 31) #[] #[]] w fun e w' => ∃ b, e = .returned (.tuple #[.int .i64 ((lob L nm : Nat) : Int), .bool b]) ∧ Below w.heap.size w w' := by
  obtain ⟨P, hP⟩ : ∃ P, P = lob L nm := ⟨_, rfl⟩
  rw [← hP]
  have HP := Lib.hid hP
  have HR := Lib.hid hr
  have HM := Lib.hid hm
  obtain ⟨n, hn⟩ : ∃ n, n = L.length := ⟨_, rfl⟩
  rw [← hn] at hl ⊢
  have HN := Lib.hid hn
  clear hP hr hm hn
  obtain ⟨S, hS⟩ : ∃ S, S = strB nm := ⟨_, rfl⟩
  rw [← hS]
  have HSE := Lib.hid hS
  clear hS
  have HCL := Lib.hid (fun (p : Pr) W => clo_any p S W)
  go_enter Try.func30, Try.ntmps30
  go_upto_region 3 with fail
  go_loopg [9, 10, 11] n (fun kx v9 v10 v11 wr => ∃ lo hi : Nat, lo ≤ hi ∧ hi ≤ n ∧ hi - lo ≤ kx ∧ v9 = .int .i64 (lo : Int) ∧ v10 = .int .i64 (hi : Int) ∧ Hid (Below w.heap.size w wr) ∧ Hid ((∀ m y, m < lo → L[m]? = some y → ahP nm y = true) ∧ ∀ m y, hi ≤ m → L[m]? = some y → ahP nm y = false))
  case atStart => exact ⟨0, n, Nat.zero_le _, Nat.le_refl _, by omega, rfl, rfl, Lib.hid (Below.refl _ _), Lib.hid ⟨fun m y h _ => absurd h (by omega), fun m y h hy => by have := (List.getElem?_eq_some_iff.1 hy).1; have := HN.out; omega⟩⟩
  case round =>
    obtain ⟨lo, hi, hlh, hin, hkx, rfl, rfl, HW, HI⟩ := hrel
    have HX := Lib.hid hkx
    clear hkx
    by_cases hlt : lo < hi
    · have hlt' : (lo : Int) < (hi : Int) := by omega
      obtain ⟨m, hmm⟩ : ∃ m, m = (lo + hi) / 2 := ⟨_, rfl⟩
      have hmi : ((lo : Int) + (hi : Int)) / 2 = (m : Int) := by omega
      have hm1 : lo ≤ m := by omega
      have hm2 : m < hi := by omega
      have hmn : (m : Int) < (n : Int) := by omega
      have hsum : (lo : Int) + (hi : Int) ≤ 2000000 := by omega
      obtain ⟨y, hy⟩ : ∃ y, L[m]? = some y := ⟨_, List.getElem?_eq_getElem (by have := HN.out; omega)⟩
      have HY := Lib.hid hy
      obtain ⟨g, off, rfl, _, c0, c1⟩ := (HR.out.below HW.out).pr m y hy
      have hz := cS_neg (strB y.1) S
      have HC := Lib.hid (HCL.out y)
      unfold prV at HC
      generalize cS (strB y.1) S = z at *
      have HZ : Hid (z < 0 ↔ ahP nm y = true) := Lib.hid (by rw [hz, HSE.out]; rfl)
      clear hmm hy hz
      go_wp2_with fail
      refine (HC.out _).mono ?_
      rintro e w' ⟨rfl, hb'⟩
      have HW2 := Lib.hid (HW.out.trans (hb'.mono HW.out.size))
      clear hb' c0 c1 HC
      by_cases hz0 : z < 0
      · have HA : Hid (ahP nm y = true) := Lib.hid (HZ.out.1 hz0)
        go_wp2
        go_roundg (hi - (m + 1))
        case measure => have := HX.out; omega
        case rel =>
          refine ⟨m + 1, hi, by omega, hin, Nat.le_refl _, by go_num, rfl, HW2, Lib.hid ⟨fun t u ht hu => ?_, HI.out.2⟩⟩
          exact HM.out t m u y (by omega) hu HY.out HA.out
      · have hz0' : 0 ≤ z := by omega
        have HA : Hid (ahP nm y = false) := Lib.hid (by
          cases h : ahP nm y with
          | false => rfl
          | true => exact absurd (HZ.out.2 h) hz0)
        go_wp2
        go_roundg (m - lo)
        case measure => have := HX.out; omega
        case rel =>
          refine ⟨lo, m, hm1, by omega, Nat.le_refl _, rfl, rfl, HW2, Lib.hid ⟨HI.out.1, fun t u ht hu => ?_⟩⟩
          cases h : ahP nm u with
          | false => rfl
          | true =>
            have := HM.out m t y u ht HY.out hu h
            rw [HA.out] at this; cases this
    · obtain rfl : lo = hi := by omega
      have HPL : Hid (P = lo) := Lib.hid (by
        rw [HP.out]
        exact lob_eq L nm lo (by have := HN.out; omega) HI.out.1 (fun u hu => HI.out.2 lo u (Nat.le_refl _) hu))
      by_cases hln : lo < n
      · have hln' : (lo : Int) < (n : Int) := by omega
        obtain ⟨y, hy⟩ : ∃ y, L[lo]? = some y := ⟨_, List.getElem?_eq_getElem (by have := HN.out; omega)⟩
        obtain ⟨g, off, rfl, _, c0, c1⟩ := (HR.out.below HW.out).pr lo y hy
        have HC := Lib.hid (HCL.out y)
        unfold prV at HC
        generalize cS (strB y.1) S = z at *
        clear hy
        go_wp2_with fail
        refine (HC.out _).mono ?_
        rintro e w' ⟨rfl, hb'⟩
        have HF := Lib.hid (HW.out.trans (hb'.mono HW.out.size))
        clear hb' c0 c1 HC
        go_wp2
        go_ret2
        rw [HPL.out]
        exact ⟨_, rfl, HF.out⟩
      · have hd : decide ((lo : Int) < (n : Int)) = false := by simp; omega
        have hd2 : decide (lo < n) = false := by simp; omega
        go_wp2
        go_ret2
        rw [HPL.out]
        exact ⟨_, rfl, HW.out⟩

set_option maxHeartbeats 2000000 in
set_option maxRecDepth 100000 in
theorem from_any (A : Option Addr) (c : Nat) (L : List Pr) (nm : List Nat) (w : World) (hr : RdN w w.heap.size 2 A L.length (prC2 L)) (hl : (L.length : Int) ≤ 1000000) (hnc : L.length ≤ c) (hm : Mono L nm) :
    Calls Try.prog 17 #[.agg #[.slice A L.length c], .string (strB nm)] w fun e w' => ∃ v, e = .returned v ∧ w'.ownsRow w.heap.size 30 2 v (L.drop (lob L nm)).length (prC2 (L.drop (lob L nm))) ∧ Below w.heap.size w w' := by
  obtain ⟨w1, hw1⟩ : ∃ w1, w1 = w.alloc (.cells #[.slice A L.length c] 35) := ⟨_, rfl⟩
  have b1 : Below w.heap.size w w1 := by rw [hw1]; exact (Below.refl _ _).alloc (Nat.le_refl _) _
  have c1 : w1.cell? ⟨w.heap.size, 0, none⟩ = some (.slice A L.length c) := by rw [hw1, World.cell?_alloc_mark]; rfl
  have HR := Lib.hid ((hr.below b1).up b1.size)
  have HBS := Lib.hid (bs_any A c L nm w1 HR.out hl hm)
  have hle := lob_le L nm
  have hdl : (L.drop (lob L nm)).length = L.length - lob L nm := List.length_drop
  have hpd : ∀ (L : List Pr) (k : Nat), k ≤ L.length → prC2 (L.drop k) = (prC2 L).drop (k * 2) := by
    intro L
    induction L with
    | nil => intro k _; simp [prC2]
    | cons p r ih =>
      intro k hk
      cases k with
      | zero => simp
      | succ k =>
        rw [List.drop_succ_cons, ih k (by simpa using hk), prC2, prC]
        rw [show (k + 1) * 2 = k * 2 + 1 + 1 by omega]
        simp
  have HPD := Lib.hid (hpd L (lob L nm) hle)
  obtain ⟨P, hP⟩ : ∃ P, P = lob L nm := ⟨_, rfl⟩
  rw [← hP] at HBS HPD hle hdl ⊢
  have HSL : Hid (∀ W (kl : IntKind), (Instr.slice 22 (.slice A L.length c) (some (.int kl (P : Int))) none none).run Try.prog W = .ok (.slice (if c = P then A else A.map (·.add (P * 2))) (L.length - P) (c - P)) W) := Lib.hid (by
    obtain ⟨i0, hi, hz0, hz1, hz2⟩ := infoP_parts Try.infoP
    intro W kl
    exact run_sliceN_l (P := Try.prog) W 22 30 i0 2 Try.underlying22 hi hz1 A L.length c P hle kl (P : Int) rfl)
  have HRD : Hid (∀ W, Below w1.heap.size w1 W → RdN W W.heap.size 2 (if c = P then A else A.map (·.add (P * 2))) (L.drop P).length (prC2 (L.drop P))) := Lib.hid (fun W hb => by
    rw [HPD.out, hdl]
    exact ((HR.out.below hb).up hb.size).drop P c hle hnc)
  have HCL := Lib.hid (fun W hb => clone_any (if c = P then A else A.map (·.add (P * 2))) (c - P) (L.drop P) W (HRD.out W hb) (by omega))
  have HB1 := Lib.hid b1
  rw [hdl] at HCL ⊢
  obtain ⟨M, hM⟩ : ∃ M, M = prC2 (L.drop P) := ⟨_, rfl⟩
  rw [← hM] at HCL ⊢
  obtain ⟨k, hk⟩ : ∃ k, k = L.length - P := ⟨_, rfl⟩
  rw [← hk] at HCL HSL ⊢
  generalize c - P = c2 at *
  generalize (if c = P then A else A.map (·.add (P * 2))) = A2 at *
  generalize L.length = n at *
  clear HR HPD HRD hr hl hnc hm hle hdl hpd hP hM hk b1
  go_enter Try.func17, Try.ntmps17
  go_wp2_with fail
  refine Calls.mono (by rw [← hw1]; exact HBS.out) ?_
  rintro e w2 ⟨bb, rfl, hb2⟩
  have hlt : w.heap.size < w1.heap.size := World.block_lt_of_cell? _ _ c1
  have c2' : w2.cell? ⟨w.heap.size, 0, none⟩ = some (.slice A n c) := (hb2.cell (p := ⟨w.heap.size, 0, none⟩) hlt).trans c1
  have HB2 := Lib.hid hb2
  have HBB := Lib.hid (HB1.out.trans (hb2.mono HB1.out.size))
  have hsl := fun W => HSL.out W .i64
  clear hb2 c1 hlt hw1
  go_wp2_with fail
  refine (HCL.out _ HB2.out).mono ?_
  rintro e w3 ⟨v, rfl, hv, hb3⟩
  have HB3 := Lib.hid hb3
  have HV := Lib.hid hv
  clear hb3 hv
  go_wp2
  go_ret
  exact ⟨_, rfl, ownN_base HV.out HBB.out.size, HBB.out.trans (HB3.out.mono HBB.out.size)⟩
end Go.Proofs.Ytalcdmpjpphopaa
