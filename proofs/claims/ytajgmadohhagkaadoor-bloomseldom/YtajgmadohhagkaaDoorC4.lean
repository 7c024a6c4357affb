/- Walks: May, Bytes, Parse. -/
import Derived.Test.YtajgmadohhagkaaDoorC3
import Derived.Test.YtajgmadohhagkaaDoorAppS
namespace Go.Proofs.YtajgmadohhagkaaDoor
set_option linter.unusedSimpArgs false
set_option linter.unusedVariables false
open Go.RowKit

set_option maxHeartbeats 1000000 in
set_option maxRecDepth 100000 in
theorem may_any (l s : List Nat) (hl : ∀ c ∈ l, c < 256) (hll : (l.length : Int) ≤ 1048576) (hs : ∀ c ∈ s, c < 256) (hsl : s.length ≤ 1000000000) (w : World) (ht : TabAt w) :
    Calls Tryd.prog 14 #[flt l, .string (strB s)] w fun e w' => e = .returned (.bool (mayB l s)) ∧ Below w.heap.size w w' := by
  have hz := strB_size l
  by_cases h0 : l = []
  · subst h0
    have e1 : mayB [] s = false := rfl
    have e2 : strB [] = { data := #[] } := rfl
    rw [e1]
    unfold flt
    rw [e2]
    go_enter Tryd.func14, Tryd.ntmps14
    go_wp2
    go_ret
    exact ⟨rfl, (Below.refl _ _).alloc (Nat.le_refl _) _⟩
  · have hp : 0 < l.length := List.length_pos_iff.2 h0
    have hne : ((strB l).toList == ([] : List UInt8)) = false := by
      rw [strB_list]
      cases l with
      | nil => exact absurd rfl h0
      | cons a r => rfl
    have HM : Hid (mayB l s = allN l (kp l.length s) 6) := Lib.hid (by unfold mayB; rw [decide_eq_true hp, Bool.true_and])
    obtain ⟨w1, hw1⟩ : ∃ w1, w1 = w.alloc (.cells #[.string (strB l)] 26) := ⟨_, rfl⟩
    have b1 : Below w.heap.size w w1 := by rw [hw1]; exact (Below.refl _ _).alloc (Nat.le_refl _) _
    have s1 : w1.heap.size = w.heap.size + 1 := by rw [hw1]; simp
    have c1 : w1.cell? ⟨w.heap.size, 0, none⟩ = some (.string (strB l)) := by rw [hw1, World.cell?_alloc_mark]; rfl
    obtain ⟨B, hB⟩ : ∃ B, B = w.heap.size := ⟨_, rfl⟩
    have HW := Lib.hid (walk_any 22 (.pointer (some ⟨B, 0, none⟩)) (fun _ _ => rfl) s hs hsl l.length hll w1 (ht.below b1 ht.1)
      (fun k W => Below w1.heap.size w1 W) (fun k => hasB l (kp l.length s k)) (fun W hW => hW)
      (fun k W hk h => by
        have hp := kp_lt l.length s hs hp k
        have := hit_any l hl B (kp l.length s k) (kp_byte _ s hs (by omega) k) (by omega) W ((h.cell (p := ⟨B, 0, none⟩) (by show B < _; omega)).trans (by rw [hB]; exact c1))
        exact this.mono fun e w' ⟨e1, e2⟩ => ⟨e1, h.trans (e2.mono h.size)⟩))
    have HW' := HW.out
    rw [hw1, hB] at HW'
    have HM2 := Lib.hid (fun h => allN_of l (kp l.length s) 6 h)
    have HM3 := Lib.hid (fun m hm h => allN_no l (kp l.length s) m 6 hm h)
    rw [HM.out]
    unfold flt
    clear HM hw1 c1 hB b1 HW
    go_enter Tryd.func14, Tryd.ntmps14
    go_wp2_with fail
    refine HW'.mono ?_
    have b1 : Below w.heap.size w (w.alloc (.cells #[.string (strB l)] 26)) := (Below.refl _ _).alloc (Nat.le_refl _) _
    rintro e w2 (⟨rfl, hI, ha⟩ | ⟨rfl, m, hm, hI, hf⟩)
    · have HMT := Lib.hid (HM2.out ha)
      have hfin := b1.trans (hI.mono (by simp))
      clear hI ha HW' HM2 HM3
      go_wp2
      go_ret
      exact ⟨by rw [HMT.out]; rfl, hfin⟩
    · have HMT := Lib.hid (HM3.out m hm hf)
      have hfin := b1.trans (hI.mono (by simp))
      clear hI hf HW' HM2 HM3
      go_wp2
      go_ret
      exact ⟨by rw [HMT.out]; rfl, hfin⟩

set_option maxHeartbeats 1000000 in
set_option maxRecDepth 100000 in
theorem bytes_all (l : List Nat) (hl : ∀ c ∈ l, c < 256) (hll : (l.length : Int) ≤ 1048576) (w : World) :
    Calls Tryd.prog 12 #[flt l] w fun e w' => ∃ A c, e = .returned (.slice A (1 + l.length) c) ∧ Rd w' w'.heap.size A (1 + l.length) (bys (6 :: l)) ∧ 1 + l.length ≤ c ∧ c ≤ maxLen ∧ Below w.heap.size w w' := by
  obtain ⟨i0, hi, hz0, hz1, hz2⟩ := info_parts Tryd.info5
  have HL := Lib.hid hl
  clear hl
  unfold flt
  have b1 : Below w.heap.size w (w.alloc (.cells #[.string (strB l)] 26)) := (Below.refl _ _).alloc (Nat.le_refl _) _
  have b2 : Below w.heap.size w ((w.alloc (.cells #[.string (strB l)] 26)).alloc (.cells #[.int .u8 6] 5)) := b1.alloc (by simp) _
  have hbuf : Buf ((w.alloc (.cells #[.string (strB l)] 26)).alloc (.cells #[.int .u8 6] 5)) w.heap.size (.slice (some ⟨w.heap.size + 1, 0, none⟩) 1 1) 1 [.int .u8 6] := by
    have := Buf.new (w.alloc (.cells #[.string (strB l)] 26)) w.heap.size 5 #[.int .u8 6] (0, 0) (by simp) (by unfold maxLen; simp)
    simpa using this
  go_enter Tryd.func12, Tryd.ntmps12
  go_wp2_with (at_builtin; refine wpList_append_bufstr _ rfl (.tmp 3) (.tmp 5) 30 9 rfl w.heap.size 5 i0 (.int .u8 0) Tryd.underlying30 Tryd.underlying9 hi hz0 hz1 hz2 rfl rfl hbuf l HL.out rfl (by unfold maxLen; omega) (by omega) (by simp; omega) ?c3)
  case c3 =>
    intro v' w' r1 r2 r3
    have hw := b2.grown r2 (by simp; omega) fun k hk => (hbuf.lt k hk).1
    have r1 : Buf w' w.heap.size v' (1 + l.length) (bys (6 :: l)) := r1
    obtain ⟨A, c, e2, hc, hrd⟩ := r1.slice
    subst e2
    have HCM := Lib.hid r1.cap_le
    clear r1 r2 r3 hbuf b1 b2
    go_wp2
    go_ret
    exact ⟨A, c, rfl, hrd, hc, HCM.out, hw⟩
theorem bytes_any (l : List Nat) (hl : ∀ c ∈ l, c < 256) (hll : (l.length : Int) ≤ 1048576) (w : World) :
    Calls Tryd.prog 12 #[flt l] w fun e w' => ∃ A c, e = .returned (.slice A (1 + l.length) c) ∧ Rd w' w'.heap.size A (1 + l.length) (bys (6 :: l)) ∧ 1 + l.length ≤ c ∧ Below w.heap.size w w' :=
  (bytes_all l hl hll w).mono fun _ _ ⟨A, c, h1, h2, h3, _, h5⟩ => ⟨A, c, h1, h2, h3, h5⟩

/-- Whether bytes are a filter's. -/
def prs (bs : List Nat) : Bool := decide (9 ≤ bs.length) && decide (bs.length ≤ 1048577) && decide (bs.getD 0 0 = 6)
def prsV (bs : List Nat) : Value := if prs bs then .tuple #[flt (bs.drop 1), .int .i64 0] else .tuple #[flt [], .int .i64 2]

set_option maxHeartbeats 1000000 in
set_option maxRecDepth 100000 in
theorem parse_any (A : Option Addr) (n c : Nat) (bs : List Nat) (w : World) (hr : Rd w w.heap.size A n (bys bs)) (hb : ∀ c ∈ bs, c < 256) (hn : (n : Int) ≤ 1000000000) (hnc : n ≤ c) (hcm : c ≤ maxLen) :
    Calls Tryd.prog 13 #[.slice A n c] w fun e w' => e = .returned (prsV bs) ∧ Below w.heap.size w w' := by
  have hbl : bs.length = n := by have := hr.1; rwa [bys_len] at this
  have HV : Hid (prsV bs = if prs bs then .tuple #[flt (bs.drop 1), .int .i64 0] else .tuple #[flt [], .int .i64 2]) := Lib.hid rfl
  have HP : Hid (prs bs = (decide (9 ≤ n) && decide (n ≤ 1048577) && decide (bs.getD 0 0 = 6))) := Lib.hid (by rw [prs, hbl])
  have b1 : Below w.heap.size w (w.alloc (.cells #[.string ⟨#[]⟩] 26)) := (Below.refl _ _).alloc (Nat.le_refl _) _
  have hz : Hid (flt [] = .agg #[.string ⟨#[]⟩]) := Lib.hid rfl
  have kc := fun (W : World) (A : Option Addr) m (hR : Rd W W.heap.size A m (bys (bs.drop 1))) c => run_conv (P := Tryd.prog) c hR 30 9 5 Tryd.underlying30 Tryd.underlying5 Tryd.underlying9
  have KC := Lib.hid kc
  clear kc
  unfold maxLen at hcm
  have hfin : ∀ v, Below w.heap.size w ((w.alloc (.cells #[.string ⟨#[]⟩] 26)).setCell ⟨w.heap.size, 0, none⟩ v) := fun v => b1.setCell (Nat.le_refl _) v
  have HFIN := Lib.hid hfin
  have q1 : (w.alloc (.cells #[.string ⟨#[]⟩] 26)).cell? ⟨w.heap.size, 0, none⟩ = some (.string ⟨#[]⟩) := by rw [World.cell?_alloc_mark]; rfl
  have q0 : ∀ v, ((w.alloc (.cells #[.string ⟨#[]⟩] 26)).setCell ⟨w.heap.size, 0, none⟩ v).cell? ⟨w.heap.size, 0, none⟩ = some v := fun v => World.cell?_setCell_same _ _ _ (q1)
  clear hfin
  by_cases h1 : n < 9
  · have hp : prs bs = false := by rw [HP.out, decide_eq_false (by omega)]; rfl
    have HE : Hid (prsV bs = .tuple #[flt [], .int .i64 2]) := Lib.hid (by rw [HV.out, hp]; rfl)
    have h1' : (n : Int) < 9 := by omega
    clear HV HP hp
    go_enter Tryd.func13, Tryd.ntmps13
    go_wp2
    exact bodyPost_ret (v := .tuple #[flt [], .int .i64 2]) (by simp [results, Tryd.results13, go_sem, q1, hz.out]) rfl ⟨by rw [HE.out], b1⟩
  · have h9 : (9 : Int) ≤ (n : Int) := by omega
    by_cases h2 : 1048577 < n
    · have hp : prs bs = false := by rw [HP.out, decide_eq_false (show ¬ n ≤ 1048577 by omega), Bool.and_false]; rfl
      have HE : Hid (prsV bs = .tuple #[flt [], .int .i64 2]) := Lib.hid (by rw [HV.out, hp]; rfl)
      have h2' : (1048577 : Int) < n := by omega
      clear HV HP hp
      go_enter Tryd.func13, Tryd.ntmps13
      go_wp2
      exact bodyPost_ret (v := .tuple #[flt [], .int .i64 2]) (by simp [results, Tryd.results13, go_sem, q1, hz.out]) rfl ⟨by rw [HE.out], b1⟩
    · have h2' : (n : Int) ≤ 1048577 := by omega
      obtain ⟨g, off, u, rfl, hgB, hu, hcell⟩ := (hr.below b1).at_ (k := 0) (by omega)
      rw [bys_get bs 0 (by omega)] at hu
      injection hu with hu
      subst hu
      have hb0 := getD_lt hb 0
      rw [Nat.add_zero] at hcell
      by_cases h6 : bs.getD 0 0 = 6
      · have hp : prs bs = true := by rw [HP.out, decide_eq_true (show 9 ≤ n by omega), decide_eq_true (show n ≤ 1048577 by omega), decide_eq_true h6]; rfl
        have HE : Hid (prsV bs = .tuple #[flt (bs.drop 1), .int .i64 0]) := Lib.hid (by rw [HV.out, hp]; rfl)
        rw [h6] at hcell
        have hrd := (hr.below b1).drop 1 c (by omega) hnc
        rw [if_neg (by omega), ← bys_drop] at hrd
        have hrd2 : Rd (w.alloc (.cells #[.string ⟨#[]⟩] 26)) (w.alloc (.cells #[.string ⟨#[]⟩] 26)).heap.size (some ⟨g, off + 1, none⟩) (n - 1) (bys (bs.drop 1)) := by
          have := hrd.up (B' := (w.alloc (.cells #[.string ⟨#[]⟩] 26)).heap.size) (by simp)
          simpa [Addr.add_lit] using this
        have kq := KC.out _ _ _ hrd2 (c - 1)
        have hq : Hid (flt (bs.drop 1) = .agg #[.string (strB (bs.drop 1))]) := Lib.hid rfl
        generalize strB (bs.drop 1) = S at *
        have hc1 : ¬ c = 1 := by omega
        have hc2 : (1 : Int) ≤ (c : Int) := by omega
        clear HV HP hp KC hrd hrd2 hr h6 h1 h2
        have h1n : (1 : Int) ≤ (n : Int) := by omega
        go_enter Tryd.func13, Tryd.ntmps13
        go_wp2
        have q2 : ∀ S : ByteArray, (w.alloc (.cells #[.string S] 26)).cell? ⟨w.heap.size, 0, none⟩ = some (.string S) := fun S => by rw [World.cell?_alloc_mark]; rfl
        exact bodyPost_ret (v := .tuple #[.agg #[.string S], .int .i64 0]) (by simp [results, Tryd.results13, go_sem, q2]) rfl ⟨by rw [HE.out, hq.out], (Below.refl _ _).alloc (Nat.le_refl _) _⟩
      · have hp : prs bs = false := by rw [HP.out, decide_eq_false h6, Bool.and_false]
        have HE : Hid (prsV bs = .tuple #[flt [], .int .i64 2]) := Lib.hid (by rw [HV.out, hp]; rfl)
        generalize bs.getD 0 0 = x at *
        have h6' : ((x : Int) != 6) = true := by simp [bne]; omega
        clear HV HP hp
        go_enter Tryd.func13, Tryd.ntmps13
        go_wp2
        exact bodyPost_ret (v := .tuple #[flt [], .int .i64 2]) (by simp [results, Tryd.results13, go_sem, q1, hz.out]) rfl ⟨by rw [HE.out], b1⟩
end Go.Proofs.YtajgmadohhagkaaDoor
