/- The law's head. -/
import Derived.Test.YtgdkcnpgnmmliabS9
namespace Go.Proofs.Ytgdkcnpgnmmliab
set_option linter.unusedSimpArgs false
set_option linter.unusedVariables false
open Go.RowKit

theorem cE_self (a : ByteArray) (S T : Int) : cE a S a T = cU T S := by simp [cE, cS, less_irrefl]
abbrev aB : ByteArray := ⟨#[97]⟩
def x5 : En := kEn aB 5
def x7 : En := kEn aB 7
theorem chk5 : chkE x5 = 0 := by decide
theorem chk7 : chkE x7 = 0 := by decide
theorem add5 : addR [] x5 = 0 ∧ addL [] x5 = [x5] := by
  have h : hit cmpE [] x5 = false := rfl
  have r : addR [] x5 = 0 := by unfold addR; rw [chk5, if_pos rfl, h]; rfl
  exact ⟨r, by unfold addL; rw [r, if_pos rfl]; rfl⟩
theorem c57 : cmpE x5 x7 = 1 := by unfold cmpE x5 x7 kEn; rw [cE_self]; rfl
theorem c75 : cmpE x7 x5 = -1 := by unfold cmpE x5 x7 kEn; rw [cE_self]; rfl
theorem pos7 : pos cmpE [x5] x7 = 0 := by simp [pos, List.takeWhile_cons, c57]
theorem add7 : addR [x5] x7 = 0 ∧ addL [x5] x7 = [x7, x5] := by
  have h : hit cmpE [x5] x7 = false := by unfold hit; rw [pos7]; simp [c57]
  have r : addR [x5] x7 = 0 := by unfold addR; rw [chk7, if_pos rfl, h]; rfl
  exact ⟨r, by unfold addL; rw [r, if_pos rfl]; unfold ins; rw [pos7]; rfl⟩
theorem c7 (s : Int) : cmpE x7 (kEn aB s) = cU s 7 := by unfold cmpE x7 kEn; rw [cE_self]
theorem c5 (s : Int) : cmpE x5 (kEn aB s) = cU s 5 := by unfold cmpE x5 kEn; rw [cE_self]
theorem get6 : getE [x7, x5] aB 6 = (x5, true) := by
  have : pos cmpE [x7, x5] (kEn aB 6) = 1 := by simp [pos, List.takeWhile_cons, c7, c5, cU]
  unfold getE; rw [this]; rfl
theorem get9 : getE [x7, x5] aB 9 = (x7, true) := by
  have : pos cmpE [x7, x5] (kEn aB 9) = 0 := by simp [pos, List.takeWhile_cons, c7, c5, cU]
  unfold getE; rw [this]; rfl
theorem get4 : getE [x7, x5] aB 4 = (zEn, false) := by
  have : pos cmpE [x7, x5] (kEn aB 4) = 2 := by simp [pos, List.takeWhile_cons, c7, c5, cU]
  unfold getE; rw [this]; rfl

/-- Add, told by what it tells. -/
theorem add_to (base gt gs : Nat) (v : Value) (L M : List En) (x : En) (r : Int) (w : World) (hr : addR L x = r ∧ addL L x = M) (h : Tb w base gt gs v L) (hbase : base ≤ w.heap.size) (hn6 : (L.length : Int) ≤ 1000000) (hsz : (szE L : Int) ≤ 1000000000000) (hk : x.k.size ≤ maxLen) (hv : x.v.size ≤ maxLen) :
    Calls Try.prog 20 #[.pointer (some ⟨gt, 0, none⟩), x.val] w fun e w' => ∃ v', e = .returned (.int .i64 r) ∧ Tb w' base gt gs v' M ∧ Tch w w' (gt :: gs :: v.ownBlock.toList) ∧ (v'.ownBlock = v.ownBlock ∨ ∀ k, v'.ownBlock = some k → w.heap.size ≤ k) := by
  refine (add_any base gt gs v L x w h hbase hn6 hsz hk hv).mono ?_
  rintro e w' ⟨v', rfl, h1, h2, h3⟩
  rw [hr.2] at h1
  exact ⟨v', by rw [hr.1], h1, h2, h3⟩
theorem get_to (base gt gs : Nat) (v : Value) (L : List En) (a : ByteArray) (s : Int) (y : En) (ok : Bool) (w : World) (hr : getE L a s = (y, ok)) (h : Tb w base gt gs v L) (hn6 : (L.length : Int) ≤ 1000000) :
    Calls Try.prog 26 #[.pointer (some ⟨gt, 0, none⟩), .string a, .int .u64 s] w fun e w' => e = .returned (.tuple #[y.val, .bool ok]) ∧ Below w.heap.size w w' := by
  have := get_any base gt gs v L a s w h hn6
  rw [hr] at this
  exact this
/-- What a call on a table turns is above its base. -/
theorem Tb.feet {w w' : World} {base gt gs : Nat} {v : Value} {L : List En} (h : Tb w base gt gs v L) (t : Tch w w' (gt :: gs :: v.ownBlock.toList)) (hb : base ≤ w.heap.size) : Below base w w' := by
  refine t.below hb (fun i hi => ?_)
  simp only [List.mem_cons, Option.mem_toList] at hi
  rcases hi with rfl | rfl | hi
  · exact h.lo
  · exact h.sd.lo
  · exact (h.sd.own.lt i hi).1

set_option maxHeartbeats 2000000 in
set_option maxRecDepth 100000 in
theorem head_any (w : World) : Calls Try.prog 15 #[] w fun e w' => e = .returned (.bool true) ∧ Below w.heap.size w w' := by
  have HN := Lib.hid (fun W => new_any W)
  have HT0 := Lib.hid (Tb.new w w.heap.size (Nat.le_refl _))
  go_enter Try.func15, Try.ntmps15
  go_upto_region 2 with (go_at_call 17; refine (HN.out _).mono ?_; rintro e w' ⟨rfl, rfl⟩)
  have hs0 : w.heap.size ≤ ((w.alloc (.cells #[fCmp, .slice none 0 0] 68)).alloc (.cells #[.pointer (some ⟨w.heap.size, 0, none⟩), .int .i64 0] 61)).heap.size := by simp; omega
  have hB0 : Below w.heap.size w ((w.alloc (.cells #[fCmp, .slice none 0 0] 68)).alloc (.cells #[.pointer (some ⟨w.heap.size, 0, none⟩), .int .i64 0] 61)) := ((Below.refl _ _).alloc (Nat.le_refl _) _).alloc (by simp) _
  generalize ((w.alloc (.cells #[fCmp, .slice none 0 0] 68)).alloc (.cells #[.pointer (some ⟨w.heap.size, 0, none⟩), .int .i64 0] 61)) = w0 at *
  have HB0 := Lib.hid hB0
  have HS0 := Lib.hid hs0
  clear hB0 hs0
  go_wp2_with fail
  refine (add_to w.heap.size _ _ _ [] _ x5 _ w0 add5 HT0.out HS0.out (by decide) (by decide) (by decide) (by decide)).mono ?_
  rintro e w1 ⟨v1, rfl, T1, t1, o1⟩
  have HB1 := Lib.hid (HB0.out.trans (HT0.out.feet t1 HS0.out))
  have HS1 := Lib.hid (Nat.le_trans HS0.out t1.size)
  have HT1 := Lib.hid T1
  clear T1 t1 o1
  go_wp2_with fail
  refine (add_to w.heap.size _ _ _ [x5] _ x7 _ w1 add7 HT1.out HS1.out (by decide) (by decide) (by decide) (by decide)).mono ?_
  rintro e w2 ⟨v2, rfl, T2, t2, o2⟩
  have HB2 := Lib.hid (HB1.out.trans (HT1.out.feet t2 HS1.out))
  have HT2 := Lib.hid T2
  clear T2 t2 o2
  go_upto_region 4 with fail
  go_wp2_with fail
  refine (get_to w.heap.size _ _ _ [x7, x5] aB 6 _ _ w2 get6 HT2.out (by decide)).mono ?_
  rintro e w3 ⟨rfl, hb⟩
  have HB3 := Lib.hid (HB2.out.trans (hb.mono HB2.out.size))
  have HT3 := Lib.hid (HT2.out.below hb)
  clear hb
  go_upto_region 5 with fail
  generalize hw4 : w3.alloc (.cells #[.string x5.k, .int .u64 x5.S, .bool x5.d, .string x5.v] 42) = w4
  have b4 : Below w3.heap.size w3 w4 := by rw [← hw4]; exact (Below.refl _ _).alloc (Nat.le_refl _) _
  have Y4 : Bx4 w4 w3.heap.size (.string x5.k) (.int .u64 x5.S) (.bool x5.d) (.string x5.v) := by rw [← hw4]; exact Bx4.new w3 _ _ _ _ _
  have HB4 := Lib.hid (HB3.out.trans (b4.mono HB3.out.size))
  have HT4 := Lib.hid (HT3.out.below b4)
  have HY4 := Lib.hid Y4
  generalize hg3 : w3.heap.size = g3 at *
  clear hw4 b4 Y4
  go_wp2_with fail
  refine (get_to w.heap.size _ _ _ [x7, x5] aB 9 _ _ w4 get9 HT4.out (by decide)).mono ?_
  rintro e w5 ⟨rfl, hb⟩
  have HB5 := Lib.hid (HB4.out.trans (hb.mono HB4.out.size))
  have HT5 := Lib.hid (HT4.out.below hb)
  have HY5 := Lib.hid (HY4.out.keep (hb.block _ HY4.out.lt))
  clear hb
  go_upto_region 6 with fail
  generalize hw6 : w5.alloc (.cells #[.string x7.k, .int .u64 x7.S, .bool x7.d, .string x7.v] 42) = w6
  have b6 : Below w5.heap.size w5 w6 := by rw [← hw6]; exact (Below.refl _ _).alloc (Nat.le_refl _) _
  have Z6 : Bx4 w6 w5.heap.size (.string x7.k) (.int .u64 x7.S) (.bool x7.d) (.string x7.v) := by rw [← hw6]; exact Bx4.new w5 _ _ _ _ _
  have HB6 := Lib.hid (HB5.out.trans (b6.mono HB5.out.size))
  have HT6 := Lib.hid (HT5.out.below b6)
  have HY6 := Lib.hid (HY5.out.keep (b6.block _ HY5.out.lt))
  have HZ6 := Lib.hid Z6
  generalize hg5 : w5.heap.size = g5 at *
  clear hw6 b6 Z6
  go_wp2_with fail
  refine (get_to w.heap.size _ _ _ [x7, x5] aB 4 _ _ w6 get4 HT6.out (by decide)).mono ?_
  rintro e w7 ⟨rfl, hb⟩
  have HB7 := Lib.hid (HB6.out.trans (hb.mono HB6.out.size))
  have HT7 := Lib.hid (HT6.out.below hb)
  have HY7 := Lib.hid (HY6.out.keep (hb.block _ HY6.out.lt))
  have HZ7 := Lib.hid (HZ6.out.keep (hb.block _ HZ6.out.lt))
  clear hb
  go_upto_region 7 with fail
  generalize hw8 : w7.alloc _ = w8
  have b8 : Below w7.heap.size w7 w8 := by rw [← hw8]; exact (Below.refl _ _).alloc (Nat.le_refl _) _
  have HB8 := Lib.hid (HB7.out.trans (b8.mono HB7.out.size))
  have HL := Lib.hid (tlen_any w.heap.size _ _ _ [x7, x5] w8 (HT7.out.below b8) (by decide))
  have Y := HY7.out.keep (b8.block _ HY7.out.lt)
  have Z := HZ7.out.keep (b8.block _ HZ7.out.lt)
  have y1 : w8.cell? ⟨g3, 1, none⟩ = some (.int .u64 5) := Y.c1
  have z1 : w8.cell? ⟨g5, 1, none⟩ = some (.int .u64 7) := Z.c1
  clear hw8 b8 Y Z hg3 hg5
  go_wp2_with (go_at_call 22; refine HL.out.mono ?_; rintro e w' ⟨rfl, rfl⟩)
  go_ret
  exact ⟨rfl, HB8.out⟩
end Go.Proofs.Ytgdkcnpgnmmliab
