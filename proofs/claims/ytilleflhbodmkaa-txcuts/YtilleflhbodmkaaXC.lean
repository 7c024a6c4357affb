/- The walk of the law on transactions cut short. -/
import Derived.Test.YtilleflhbodmkaaXE
import Derived.Test.YtilleflhbodmkaaXB
namespace Go.Proofs.Ytilleflhbodmkaa
set_option linter.unusedSimpArgs false
set_option linter.unusedVariables false
open Go.RowKit

theorem i64_andF5 (n : Int) : bits .and .i64 n 1048575 = n % 1048576 := by
  have h63 : (BitVec.ofInt 64 1048575).toNat = 2 ^ 20 - 1 := by decide
  have key : (BitVec.ofInt 64 n &&& BitVec.ofInt 64 1048575).toNat = (n % ((2 ^ 64 : Nat) : Int)).toNat % 2 ^ 20 := by
    rw [BitVec.toNat_and, BitVec.toNat_ofInt, h63, Nat.and_two_pow_sub_one_eq_mod]
  show IntKind.i64.wrap ((BitVec.ofInt 64 n &&& BitVec.ofInt 64 1048575).toNat : Nat) = n % 1048576
  rw [key, IntKind.wrap_i64]
  omega
theorem TxAt.pok {w : World} {B : Nat} {t : MTx} (h : TxAt w B t) : t.p.ok :=
  ⟨fun x hx => by
    simp only [MTx.p, List.mem_map] at hx
    obtain ⟨y, hy, rfl⟩ := hx
    exact (h.iat y hy).ok, h.ook, h.v0, h.v1, h.lock⟩
theorem layB_b8 {t : PTx} (ho : t.ok) (b : Bool) : B8 (layB t b) := by
  have htxt : ∀ s : List Nat, B8 s → B8 (txt s) := fun s hs c hc => by
    unfold txt at hc
    rcases List.mem_append.1 hc with hc | hc
    · exact M.compB_lt _ c hc
    · exact hs c hc
  intro c hc
  rw [layB_r] at hc
  simp only [List.mem_append] at hc
  rcases hc with hc | hc | hc | hc | hc | hc | hc | hc
  · exact M.leB_lt _ _ c hc
  · cases b <;> simp at hc; omega
  · exact M.compB_lt _ c hc
  · obtain ⟨x, hx, hc⟩ := List.mem_flatMap.1 hc
    have ok := ho.ins x hx
    unfold inB at hc
    simp only [List.mem_append] at hc
    rcases hc with ((hc | hc) | hc) | hc
    · exact ok.idb c hc
    · exact M.leB_lt _ _ c hc
    · exact htxt _ ok.sc c hc
    · exact M.leB_lt _ _ c hc
  · exact M.compB_lt _ c hc
  · obtain ⟨x, hx, hc⟩ := List.mem_flatMap.1 hc
    have ok := ho.outs x hx
    unfold outB at hc
    simp only [List.mem_append] at hc
    rcases hc with hc | hc
    · exact M.leB_lt _ _ c hc
    · exact htxt _ ok.sc c hc
  · cases b with
    | false => simp at hc
    | true =>
      simp only [if_true] at hc
      obtain ⟨x, hx, hc⟩ := List.mem_flatMap.1 hc
      have ok := ho.ins x hx
      unfold witB at hc
      simp only [List.mem_append] at hc
      rcases hc with hc | hc
      · exact M.compB_lt _ c hc
      · obtain ⟨p, hp, hc⟩ := List.mem_flatMap.1 hc
        exact htxt _ (ok.wit p hp).1 c hc
  · exact M.leB_lt _ _ c hc

set_option maxHeartbeats 4000000 in
set_option maxRecDepth 100000 in
theorem cuts_walk (t : MTx) (x : Int) (w : World) (h : TxAt w w.heap.size t) :
    Calls Try.prog 6 #[t.val, .int .i64 x] w fun e w' => e = .returned (.bool true) ∧ Below w.heap.size w w' := by
  obtain ⟨i0, hi, hz0, hz1, hz2⟩ := info_parts Try.info5
  have HT := Lib.hid h
  have HPK := Lib.hid h.pok
  obtain ⟨TC, hTC⟩ : ∃ TC : List Value, TC = [.int .i32 t.ver, .slice t.ia t.ins.length t.ic, .slice t.oa t.outs.length t.oc, .int .u32 (t.lock : Int)] := ⟨_, rfl⟩
  have hval : t.val = .agg TC.toArray := by rw [hTC]; rfl
  have hlen : TC.length = 4 := by rw [hTC]; rfl
  obtain ⟨W3, e3⟩ : ∃ W3, W3 = w.alloc (.cells TC.toArray 26) := ⟨_, rfl⟩
  have hB3 : Below w.heap.size w W3 := by rw [e3]; exact (Below.refl _ _).alloc (Nat.le_refl _) _
  have k0 : Blk W3 w.heap.size 26 TC.toArray := by rw [e3]; exact Blk.new _ _ _
  have HSZ := Lib.hid (show (Try.prog.info? 26).map (·.size) = some TC.length by rw [hlen]; kernel_rfl)
  have HRG : Hid (∀ wx, Below W3.heap.size W3 wx → wx.rangeAt w.heap.size 0 TC) := Lib.hid (fun wx hx => rangeAt_below (show W3.rangeAt w.heap.size 0 TC from k0.range) hx k0.lt)
  have HTA : Hid (∀ wx, Below W3.heap.size W3 wx → TxAt wx w.heap.size t ∧ w.heap.size ≤ wx.heap.size ∧ Below w.heap.size w wx) := Lib.hid (fun wx hx => by
    have h1 : Below w.heap.size w wx := hB3.trans (hx.mono hB3.size)
    exact ⟨HT.out.below h1, h1.size, h1⟩)
  have HHD := Lib.hid (head_any W3)
  have HBG := Lib.hid (fun wx hx => big_some wx w.heap.size t (HTA.out wx hx).1 (HTA.out wx hx).2.1)
  have HEN := Lib.hid (fun wx hx => encode_any wx w.heap.size t (HTA.out wx hx).1 (HTA.out wx hx).2.1)
  rw [hval] at HBG HEN ⊢
  have HE3 := Lib.hid e3
  have hand := i64_andF5 x
  clear hTC hval hlen e3 hB3 k0 h
  go_enter Try.func6, Try.ntmps6
  go_upto_region 1 with fail
  rw [← HE3.out]
  go_wp2_with fail
  refine HHD.out.mono ?_
  rintro e w4 ⟨rfl, b4⟩
  have HB4 := Lib.hid b4
  have HG4 := Lib.hid (HRG.out w4 b4)
  clear b4
  go_wp2_with ((refine wpList_load_mid rfl 26 (.tmp 2) rfl w.heap.size 0 rfl TC _ HG4.out Try.underlying26 rfl HSZ.out ?_))
  refine (HBG.out w4 HB4.out).mono ?_
  rintro e w5 ⟨⟨b, rfl⟩, b5⟩
  have HB5 := Lib.hid (HB4.out.trans (b5.mono HB4.out.size))
  clear b5
  cases b with
  | true =>
    go_wp2
    go_ret
    exact ⟨rfl, (HTA.out _ HB5.out).2.2⟩
  | false =>
    have HG5 := Lib.hid (HRG.out w5 HB5.out)
    go_wp2_with ((refine wpList_load_mid rfl 26 (.tmp 2) rfl w.heap.size 0 rfl TC _ HG5.out Try.underlying26 rfl HSZ.out ?_))
    refine (HEN.out w5 HB5.out).mono ?_
    rintro e w6 ⟨v6, rfl, h6, _, b6⟩
    have HB6 := Lib.hid (HB5.out.trans (b6.mono HB5.out.size))
    clear b6
    by_cases hz : encE t.p = 0
    · have bf := h6 hz
      obtain ⟨hck, hle⟩ := enc_ok hz
      have hsm := small_of hck HPK.out
      have h8 := layB_b8 HPK.out (hasW t.p)
      rw [hz]
      obtain ⟨L, hL⟩ : ∃ L, L = layB t.p (hasW t.p) := ⟨_, rfl⟩
      rw [← hL] at bf hle h8
      have hcut := fun k hk => dec_cut t.p hsm (by rw [← hL]; exact hle) k hk
      rw [← hL] at hcut
      obtain ⟨A, c, rfl, hcl, hrd⟩ := bf.slice
      have hcm := bf.cap_le
      unfold maxLen at hcm
      have hpos : 4 ≤ L.length := by rw [hL, layB_r, List.length_append, M.leB_len]; omega
      obtain ⟨n, hn⟩ : ∃ n, n = L.length := ⟨_, rfl⟩
      rw [← hn] at hle hcl hrd hpos hcut ⊢
      obtain ⟨k, hk⟩ : ∃ k : Nat, (k : Int) = x % 1048576 % (n : Int) := ⟨(x % 1048576 % (n : Int)).toNat, by
        have := Int.emod_nonneg (x % 1048576) (show (n : Int) ≠ 0 by omega)
        omega⟩
      have hkn : k < n := by
        have := Int.emod_lt_of_pos (x % 1048576) (show (0 : Int) < (n : Int) by omega)
        omega
      have hsl := fun wx : World => run_slice_h (P := Try.prog) wx 27 5 i0 Try.underlying27 hi hz1 A n c k (by omega) .i64 (k : Int) rfl
      have hrk := hrd.take k (by omega)
      rw [← bys_take] at hrk
      have HDE := Lib.hid (decode_any w6 A k c (L.take k) hrk (h8.take k) (by omega) (by omega) (by omega))
      have HDC := Lib.hid (hcut k hkn)
      have hx0 : (0 : Int) ≤ x % 1048576 := by omega
      have hn0 : (0 : Int) < (n : Int) := by omega
      have hn1 : (n : Int) ≠ 0 := by omega
      have hn2 : ((n : Int) == 0) = false := by simp; omega
      have hkc : (k : Int) ≤ (c : Int) := by omega
      have HKX := Lib.hid hk
      have hrem : (x % 1048576).tmod (n : Int) = (k : Int) := by rw [Int.tmod_eq_emod_of_nonneg hx0, hk]
      clear bf hck hsm h8 hcut hcl hrd hcm hrk hn hkn h6 hz hle hk
      go_upto_region 9 with fail
      clear hand hx0 hn0 hn1 hn2 hrem
      go_wp2_with fail
      refine HDE.out.mono ?_
      rintro e w7 ⟨t7, rfl, htp, hta, b7⟩
      rw [HDC.out] at htp ⊢
      have hi7 : t7.ins.length = 0 := by
        have := congrArg (fun p => p.ins.length) htp
        simpa [MTx.p, nil0] using this
      obtain ⟨ver, ins, ia, ic, outs, oa, oc, lock⟩ := t7
      simp only at hi7
      rw [show MTx.val ⟨ver, ins, ia, ic, outs, oa, oc, lock⟩ = .agg #[.int .i32 ver, .slice ia 0 ic, .slice oa outs.length oc, .int .u32 (lock : Int)] by simp only [MTx.val, hi7]]
      have HB7 : Hid (Below w.heap.size w w7) := Lib.hid ((HTA.out _ HB6.out).2.2.trans (b7.mono (HTA.out _ HB6.out).2.1))
      obtain ⟨W8, e8⟩ : ∃ W8, W8 = w7.alloc (.cells #[.int .i32 ver, .slice ia 0 ic, .slice oa outs.length oc, .int .u32 (lock : Int)] 26) := ⟨_, rfl⟩
      have x8 : Bx4 W8 w7.heap.size (.int .i32 ver) (.slice ia 0 ic) (.slice oa outs.length oc) (.int .u32 (lock : Int)) := by rw [e8]; exact Bx4.new _ _ _ _ _ _
      have HB8 : Hid (Below w.heap.size w W8) := Lib.hid (by rw [e8]; exact HB7.out.alloc HB7.out.size _)
      have c1 := x8.c1
      have HE8 := Lib.hid e8
      clear htp hta b7 hi7 e8 x8 hsl
      go_upto_region 10 with fail
      rw [← HE8.out]
      go_wp2
      go_ret
      exact ⟨rfl, HB8.out⟩
    · have hz1' : ((encE t.p : Int) != 0) = true := by simp [bne]; omega
      have hz2' : ((encE t.p : Int) == 0) = false := by simp; omega
      have hz3' : ¬ (encE t.p : Int) = 0 := by omega
      clear h6 hz
      go_wp2
      go_ret
      exact ⟨rfl, (HTA.out _ HB6.out).2.2⟩
end Go.Proofs.Ytilleflhbodmkaa
