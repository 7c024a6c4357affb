/- Walks: cut. -/
import Derived.Test.YtahbhaphodgomaaE1
namespace Go.Proofs.Ytahbhaphodgomaa
set_option linter.unusedSimpArgs false
set_option linter.unusedVariables false
open Go.RowKit Go.Maps

theorem Buf.cut {w : World} {base n c : Nat} {A : Option Addr} {xs : List Value} (h : Buf w base (.slice A n c) n xs) (k : Nat) (hk : k ≤ n) : Buf w base (.slice A k k) k (xs.take k) := by
  rcases h.2 with ⟨e, e0⟩ | ⟨g, off, cap, e, hb, hlt, hnc, hcm, hx, hsp⟩
  · injection e with e1 e2 e3
    subst e1
    have : k = 0 := by omega
    subst this
    simpa using Buf.nil w base
  · injection e with e1 e2 e3
    subst e1; subst e3
    refine ⟨by rw [List.length_take, h.1]; omega, .inr ⟨g, off, k, rfl, hb, hlt, Nat.le_refl _, by omega, fun j u hu => ?_, fun j h1 h2 => absurd h2 (by omega)⟩⟩
    rw [List.getElem?_take] at hu
    split at hu
    · exact hx j u hu
    · cases hu
def cutN (K S : Nat) (t : Int) : Nat := if t ≤ 0 then S else if t ≤ (K : Int) - (S : Int) then S + t.toNat else K
theorem cutN_le (K S : Nat) (t : Int) (h : S ≤ K) : cutN K S t ≤ K := by unfold cutN; split; exact h; split <;> omega
theorem run_slice_max {P : Program} (w : World) (t e : TypeId) (i : TypeInfo) (ht : P.underlying t = some (.slice e)) (hi : P.info? e = some i) (hs : i.size = 1) (A : Option Addr) (n c h : Nat) (hc : h ≤ c) (kh : IntKind) (H : Int) (hH : H = h) :
    (Instr.slice t (.slice A n c) none (some (.int kh H)) (some (.int kh H))).run P w = .ok (.slice A h h) w := by
  subst hH
  have e1 : (Instr.sliceBound (.int kh (h : Int)) c .slice3Acap).run P w = .ok h w := by simp [Instr.sliceBound, asIntOf]; omega
  have e2 : (Instr.sliceBound (.int kh (h : Int)) h .slice3B).run P w = .ok h w := by simp [Instr.sliceBound, asIntOf]
  have e3 : A.map (·.add 0) = A := by cases A <;> simp [Addr.add]
  simp [Instr.slice, run_underlying ht, Instr.sliceBounds, e1, e2, sizeOf, typeInfo, hi, hs, e3]

theorem FileAt.cut0 {w : World} {base : Nat} {f : File} {A : Option Addr} {c : Nat} (h : FileAt w base f) (hne : f.v.ownBlock ≠ some f.blk) (ev : f.v = .slice A f.data.length c) :
    FileAt (w.setCell ⟨f.blk, 0, none⟩ (.slice A f.sure f.sure)) base { f with v := .slice A f.sure f.sure, data := f.data.take f.sure } := by
  have hs := h.sure
  have hg := grown_setCell w ⟨f.blk, 0, none⟩ (.slice A f.sure f.sure)
  have ho : (Value.slice A f.sure f.sure).ownBlock = f.v.ownBlock := by rw [ev]; cases A <;> rfl
  have hk : ∀ k, (Value.slice A f.sure f.sure).ownBlock = some k → some k ≠ some f.blk := fun k e e2 => hne (by rw [← ho, e, e2])
  have hb := h.buf
  rw [ev] at hb
  have hb2 := hb.cut f.sure hs
  rw [← bys_take] at hb2
  have hl : (f.data.take f.sure).length = f.sure := by rw [List.length_take]; omega
  refine ⟨h.box.set0 _, ?_, ?_, fun c hc => h.bytes c (List.mem_of_mem_take hc), ?_, h.name⟩
  · show Buf _ base _ (f.data.take f.sure).length _
    rw [hl]
    exact hb2.grown hg hk
  · exact fun k e o => (World.frozen?_setCell _ _ _ _).trans (h.cold k (by rw [← ho]; exact e) o)
  · show f.sure ≤ (f.data.take f.sure).length
    omega
theorem FileAt.drew {w : World} {base : Nat} {f : File} (h : FileAt w base f) : FileAt w.drew base f := h.keep (Nat.le_refl _) (fun _ _ => rfl)

set_option maxHeartbeats 1000000 in
set_option maxRecDepth 100000 in
theorem cut_any (w : World) (base : Nat) (f : File) (t : Int) (h : FileAt w base f) (hne : f.v.ownBlock ≠ some f.blk) (hK : (f.data.length : Int) ≤ 67108864) (ht : -9223372036854775808 ≤ t ∧ t ≤ 9223372036854775807) :
    Calls Try.prog 41 #[.pointer (some ⟨f.blk, 0, none⟩), .int .i64 t] w fun e w' => e = .returned (.tuple #[]) ∧ w.grownBy w' (some f.blk) ∧ ∃ v', v'.ownBlock = f.v.ownBlock ∧ FileAt w' base { f with v := v', data := f.data.take (cutN f.data.length f.sure t), sure := cutN f.data.length f.sure t } := by
  obtain ⟨i0, hi, hz0, hz1, hz2⟩ := info_parts Try.info5
  obtain ⟨A, c, ev, hc, hrd⟩ := h.buf.slice
  have hq0 := h.box.c0
  rw [ev] at hq0
  have hq1 := h.box.c1
  have hq2 := h.box.cold 1
  have hsu := h.sure
  have hCle := cutN_le f.data.length f.sure t hsu
  obtain ⟨C, HC⟩ : ∃ C, Hid (C = cutN f.data.length f.sure t) := ⟨_, Lib.hid rfl⟩
  rw [← HC.out] at hCle ⊢
  have hsl := fun wx => run_slice_max (P := Try.prog) wx 29 5 i0 Try.underlying29 hi hz1 A f.data.length c C (by omega) .i64 (C : Int) rfl
  have hcm := h.buf
  rw [ev] at hcm
  have hcm := hcm.cap_le
  unfold maxLen at hcm
  have HN : ∀ w1, w1 = w.drew.setCell ⟨f.blk, 1, none⟩ (.int .i64 (C : Int)) → Bx2 w1 f.blk (.slice A f.data.length c) (.int .i64 (C : Int)) ∧ w.grownBy (w1.drew.setCell ⟨f.blk, 0, none⟩ (.slice A C C)) (some f.blk) ∧ ∃ v', v'.ownBlock = f.v.ownBlock ∧ FileAt (w1.drew.setCell ⟨f.blk, 0, none⟩ (.slice A C C)) base { f with v := v', data := f.data.take C, sure := C } := by
    rintro w1 rfl
    have h1 := h.drew.set1 hne C hCle
    have h2 := FileAt.cut0 (f := { f with sure := C }) h1.drew hne ev
    have h3 := h1.box
    rw [show ({ f with sure := C } : File).v = f.v from rfl, ev] at h3
    refine ⟨h3, ?_, .slice A C C, by rw [ev]; cases A <;> rfl, h2⟩
    have g1 := grown_setCell w.drew ⟨f.blk, 1, none⟩ (.int .i64 (C : Int))
    have g2 := grown_setCell (w.drew.setCell ⟨f.blk, 1, none⟩ (.int .i64 (C : Int))).drew ⟨f.blk, 0, none⟩ (.slice A C C)
    have g1' : w.grownBy (w.drew.setCell ⟨f.blk, 1, none⟩ (.int .i64 (C : Int))).drew (some f.blk) := ⟨g1.os, g1.tape, g1.output, g1.size, g1.block⟩
    exact g1'.trans g2
  have HN := Lib.hid HN
  obtain ⟨K, HK⟩ : ∃ K, Hid (K = f.data.length) := ⟨_, Lib.hid rfl⟩
  obtain ⟨S, HS⟩ : ∃ S, Hid (S = f.sure) := ⟨_, Lib.hid rfl⟩
  rw [← HK.out] at hq0 hsl hK hsu hCle hc HC HN
  rw [← HS.out] at hq1 hsu HC
  clear h hrd hne
  have hw0 : IntKind.i64.wrap ((K : Int) - (S : Int)) = (K : Int) - (S : Int) := by rw [IntWalk.i64_in _ (by omega)]
  have hC2 : (C : Int) = if t ≤ 0 then (S : Int) else if t ≤ (K : Int) - (S : Int) then (S : Int) + t else (K : Int) := by
    rw [HC.out, cutN]
    split
    · rfl
    · split <;> omega
  have HC2 := Lib.hid hC2
  clear hC2
  by_cases h1 : t < 0
  · have HCC : Hid ((S : Int) = (C : Int)) := Lib.hid (by rw [HC2.out, if_pos (by omega)])
    have h2 : (0 : Int) ≤ (K : Int) - (S : Int) := by omega
    go_enter Try.func41, Try.ntmps41
    go_wp2_with fail
    go_still_tail 18, (by kernel_rfl)
    go_wp2
    try any_goals (exfalso; omega)
    rw [show (S : Int) = (C : Int) from by have := HCC.out; omega]
    obtain ⟨hbx, hgr, hfa⟩ := HN.out _ rfl
    have hgr := Lib.hid hgr
    have hfa := Lib.hid hfa
    have hr0 := hbx.c0
    have hr1 := hbx.c1
    have hr2 := hbx.cold 0
    change Code.wp _ _ _ _ (w.drew.setCell ⟨f.blk, 1, none⟩ (.int .i64 (C : Int)))
    generalize w.drew.setCell ⟨f.blk, 1, none⟩ (.int .i64 (C : Int)) = w5 at *
    clear hbx hq0 hq1 hq2 HN
    go_still_tail 14, (by kernel_rfl)
    go_wp2
    go_end0
    exact ⟨rfl, hgr.out, hfa.out⟩
  · by_cases h2 : t ≤ (K : Int) - (S : Int)
    · have HCC : Hid ((S : Int) + t = (C : Int)) := Lib.hid (by
        rw [HC2.out]
        by_cases h3 : t ≤ 0
        · rw [if_pos h3]; omega
        · rw [if_neg h3, if_pos h2])
      have h1' : (0 : Int) ≤ t := by omega
      go_enter Try.func41, Try.ntmps41
      go_wp2_with fail
      go_still_tail 18, (by kernel_rfl)
      go_wp2
      try any_goals (exfalso; omega)
      rw [show (S : Int) + t = (C : Int) from by have := HCC.out; omega]
      obtain ⟨hbx, hgr, hfa⟩ := HN.out _ rfl
      have hgr := Lib.hid hgr
      have hfa := Lib.hid hfa
      have hr0 := hbx.c0
      have hr1 := hbx.c1
      have hr2 := hbx.cold 0
      change Code.wp _ _ _ _ (w.drew.setCell ⟨f.blk, 1, none⟩ (.int .i64 (C : Int)))
      generalize w.drew.setCell ⟨f.blk, 1, none⟩ (.int .i64 (C : Int)) = w5 at *
      clear hbx hq0 hq1 hq2 HN
      go_still_tail 14, (by kernel_rfl)
      go_wp2
      go_end0
      exact ⟨rfl, hgr.out, hfa.out⟩
    · have HCC : Hid ((K : Int) = (C : Int)) := Lib.hid (by rw [HC2.out, if_neg (by omega), if_neg h2])
      have h1' : (0 : Int) ≤ t := by omega
      have h2' : (K : Int) - (S : Int) < t := by omega
      go_enter Try.func41, Try.ntmps41
      go_wp2_with fail
      go_still_tail 18, (by kernel_rfl)
      go_wp2
      try any_goals (exfalso; omega)
      rw [show (S : Int) + ((K : Int) - (S : Int)) = (C : Int) from by have := HCC.out; omega]
      obtain ⟨hbx, hgr, hfa⟩ := HN.out _ rfl
      have hgr := Lib.hid hgr
      have hfa := Lib.hid hfa
      have hr0 := hbx.c0
      have hr1 := hbx.c1
      have hr2 := hbx.cold 0
      change Code.wp _ _ _ _ (w.drew.setCell ⟨f.blk, 1, none⟩ (.int .i64 (C : Int)))
      generalize w.drew.setCell ⟨f.blk, 1, none⟩ (.int .i64 (C : Int)) = w5 at *
      clear hbx hq0 hq1 hq2 HN
      go_still_tail 14, (by kernel_rfl)
      go_wp2
      go_end0
      exact ⟨rfl, hgr.out, hfa.out⟩
end Go.Proofs.Ytahbhaphodgomaa
