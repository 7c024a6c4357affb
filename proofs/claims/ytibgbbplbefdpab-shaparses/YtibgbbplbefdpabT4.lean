/- The walk of ShaTexts. -/
import Derived.Test.YtibgbbplbefdpabT3
namespace Go.Proofs.Ytibgbbplbefdpab
set_option linter.unusedSimpArgs false
set_option linter.unusedVariables false
open Go.RowKit

def H1 : List Nat := List.replicate 31 0 ++ [1]
theorem H1_len : H1.length = 32 := rfl
theorem H1_lt : ∀ c ∈ H1, c < 256 := by decide
def HA : Array Value := (bys H1).toArray
def T1 : ByteArray := strB (txt H1)
theorem T1_size : T1.size = 64 := by decide +kernel
theorem T1_ext : T1.extract 0 2 = ⟨#[48, 49]⟩ := by decide +kernel

theorem texthead (w : World) : Calls Try.prog 5 #[.agg HA] w fun e w' => e = .returned (.string T1) ∧ Below w.heap.size w w' := text_any H1 H1_len H1_lt w

theorem hx_dv (n : Nat) (h : n < 16) : dv (hx n) = n := by
  have : ∀ k : Fin 16, dv (hx k.val) = k.val := by decide
  exact this ⟨n, h⟩
theorem dv_hx (c : Nat) (h : c < 256) (hd : 0 ≤ dv c) : hx (dv c).toNat = c := by
  have : ∀ k : Fin 256, 0 ≤ dv k.val → hx (dv k.val).toNat = k.val := by decide +kernel
  exact this ⟨c, h⟩ hd
theorem two_len (l : List Nat) : (l.flatMap two).length = 2 * l.length := by
  induction l with
  | nil => rfl
  | cons x r ih => simp [List.flatMap_cons, two, ih]; omega
theorem two_at (l : List Nat) (k : Nat) (h : k < l.length) : (l.flatMap two).getD (2 * k) 0 = hx (l.getD k 0 / 16) ∧ (l.flatMap two).getD (2 * k + 1) 0 = hx (l.getD k 0 % 16) := by
  induction l generalizing k with
  | nil => simp at h
  | cons x r ih =>
    cases k with
    | zero => simp [List.flatMap_cons, two]
    | succ k =>
      have := ih k (by simpa using h)
      rw [show 2 * (k + 1) = 2 * k + 1 + 1 by omega]
      simpa [List.flatMap_cons, two] using this
theorem txt_len (hs : List Nat) (h : hs.length = 32) : (txt hs).length = 64 := by unfold txt; rw [two_len]; simp [h]
theorem txt_lt (hs : List Nat) (hb : ∀ c ∈ hs, c < 256) : ∀ c ∈ txt hs, c < 256 := by
  intro c hc
  simp [txt, two] at hc
  obtain ⟨a, ha, hc⟩ := hc
  have := hb a ha
  rcases hc with rfl | rfl <;> exact hx_lt _ (by omega)
theorem txt_at (hs : List Nat) (h : hs.length = 32) (k : Nat) (hk : k < 32) : (txt hs).getD (2 * k) 0 = hx (hs.getD (31 - k) 0 / 16) ∧ (txt hs).getD (2 * k + 1) 0 = hx (hs.getD (31 - k) 0 % 16) := by
  have := two_at hs.reverse k (by simp; omega)
  have e : hs.reverse.getD k 0 = hs.getD (31 - k) 0 := by
    simp [List.getD, List.getElem?_reverse (show k < hs.length by omega), h]
  rw [e] at this
  exact this
theorem pTo_txt (hs : List Nat) (h : hs.length = 32) (hb : ∀ c ∈ hs, c < 256) : pTo (txt hs) 32 = hs := by
  unfold pTo
  simp
  have e : (List.range 32).map (pv (txt hs)) = hs.reverse := by
    apply List.ext_getElem (by simp [h])
    intro i h1 h2
    have hi : i < 32 := by simpa using h1
    have hc := getD_lt hb (31 - i)
    simp [pv]
    obtain ⟨e1, e2⟩ := txt_at hs h i hi
    simp only [List.getD_eq_getElem?_getD] at e1 e2 hc
    rw [e1, e2, hx_dv _ (by omega), hx_dv _ (by omega)]
    have e3 : hs[hs.length - 1 - i]'(by omega) = hs[31 - i]?.getD 0 := by
      rw [List.getElem?_eq_getElem (by omega)]; simp [h]
    rw [e3]
    omega
  rw [e]; simp
theorem parse_txt (hs : List Nat) (h : hs.length = 32) (hb : ∀ c ∈ hs, c < 256) (w : World) :
    Calls Try.prog 6 #[.string (strB (txt hs))] w fun e w' => e = .returned (.tuple #[.agg (bys hs).toArray, .int .i64 0]) ∧ Below w.heap.size w w' := by
  have := parse_any (txt hs) (txt_len hs h) (txt_lt hs hb) 32 (Nat.le_refl _) (fun k hk => by
    obtain ⟨e1, e2⟩ := txt_at hs h k hk
    have hc := getD_lt hb (31 - k)
    rw [e1, e2, hx_dv _ (by omega), hx_dv _ (by omega)]
    omega) (fun h => absurd h (by omega)) w
  rw [if_neg (by omega), pTo_txt hs h hb] at this
  exact this

theorem Try.cells5 : Try.prog.cellsOf 5 = 1 := by kernel_rfl
theorem Try.cells23 : Try.prog.cellsOf 23 = 32 := by kernel_rfl
theorem Try.eqg23 : Try.prog.eqGuardType Try.prog.depth 23 = false := by kernel_rfl
set_option maxHeartbeats 1000000 in
set_option maxRecDepth 100000 in
theorem texts_walk (hs : List Nat) (hl : hs.length = 32) (hb : ∀ c ∈ hs, c < 256) (w : World) :
    Calls Try.prog 3 #[.agg (bys hs).toArray] w fun e w' => e = .returned (.bool true) ∧ Below w.heap.size w w' := by
  obtain ⟨i0, hi, hz0, hz1, hz2⟩ := info_parts Try.info5
  have HL := Lib.hid hl
  have HB := Lib.hid hb
  have HE := Lib.hid (fun wx => run_eql_bys (P := Try.prog) wx 23 5 32 .u8 i0 Try.underlying23 hi Try.cells5 Try.underlying5 hs hs hl hl)
  have hsz : (bys hs).length = 32 := by rw [bys_len, hl]
  have HSZ := Lib.hid hsz
  clear hl hb hsz hi hz0 hz1 hz2
  have t1 := T1_size
  have t2 := T1_ext
  have t3 : (T1.toList.take 2) = [48, 49] := by decide +kernel
  go_enter Try.func3, Try.ntmps3
  go_wp2_with (first
    | (refine wpList_of_wp rfl fun K hK => wp_build_arr 23 _ rfl 32 5 ZH HA Try.underlying23 Try.zero23 Try.size5 (by kernel_rfl) (hK _ _ ?_)))
  refine (texthead _).mono ?_
  rintro e w1 ⟨rfl, hb1⟩
  have hc1 : Blk w1 w.heap.size 23 (bys hs).toArray := (hb1.block _ (by simp)).trans (heap_alloc_new w _)
  have hbw1 : Below w.heap.size w w1 := ((Below.refl _ _).alloc (Nat.le_refl _) _).trans (hb1.mono (by simp))
  have HR1 := Lib.hid hc1.range
  have HBW := Lib.hid hbw1
  have hs1 : w.heap.size < w1.heap.size := by have := hb1.size; simp at this; omega
  clear hbw1
  go_wp2_with (refine wpList_load_mid rfl 23 (.tmp 1) rfl w.heap.size 0 rfl (bys hs) _ HR1.out Try.underlying23 rfl (by rw [HSZ.out]; exact Try.size23) ?_)
  refine (text_any hs HL.out HB.out _).mono ?_
  rintro e w2 ⟨rfl, hb2⟩
  have hs2 : w1.heap.size ≤ w2.heap.size := hb2.size
  go_wp2_with fail
  refine (parse_txt hs HL.out HB.out _).mono ?_
  rintro e w3 ⟨rfl, hb3⟩
  have hs3 : w2.heap.size ≤ w3.heap.size := hb3.size
  have hr3 : w3.rangeAt w.heap.size 0 (bys hs) := rangeAt_below (rangeAt_below HR1.out hb2 (by omega)) hb3 (by omega)
  have HB3 := Lib.hid (HBW.out.trans ((hb2.mono (by omega)).trans (hb3.mono (by omega))))
  have HTN := Lib.hid (there_new w3 ZH 23 (bys hs).toArray.size (by rw [ZH_size]; exact HSZ.out.symm))
  have HR4 := Lib.hid (World.rangeAt_setCells_same (w3.alloc (.cells ZH 23)) w3.heap.size 0 (bys hs) (by simpa using HTN.out))
  have HR5 := Lib.hid (World.rangeAt_setCells_apart (rangeAt_below hr3 ((Below.refl _ _).alloc (Nat.le_refl _) (.cells ZH 23)) (by omega)) w3.heap.size 0 (bys hs) (.inl (by omega)))
  have HB5 := Lib.hid (Below.setCells' (HB3.out.alloc (by omega) (.cells ZH 23)) w3.heap.size 0 (by omega) (bys hs))
  have hsz5 : ((w3.alloc (.cells ZH 23)).setCells w3.heap.size 0 (bys hs)).heap.size = w3.heap.size + 1 := by rw [size_setCells]; simp
  have HSZ5 := Lib.hid hsz5
  clear hsz5 hr3 hb2 hb3 hb1 hc1
  go_wp2_with (first
    | (refine wpList_of_wp rfl fun K hK => wp_alloc_arr 23 rfl ZH Try.zero23 (hK _ _ ?_))
    | (refine wpList_store_mid rfl 23 (.tmp 5) (.tmp 22) rfl w3.heap.size 0 (bys hs).toArray rfl rfl HTN.out (by rw [show (bys hs).toArray.size = 32 from HSZ.out]; exact Try.size23) (all_oneCell_toArray (bys_one _)) ?_)
    | (refine wpList_load_mid rfl 23 (.tmp 1) rfl w.heap.size 0 rfl (bys hs) _ HR5.out Try.underlying23 rfl (by rw [HSZ.out]; exact Try.size23) ?_))
  change Calls _ _ _ ((w3.alloc (.cells ZH 23)).setCells w3.heap.size 0 (bys hs)) _
  generalize (w3.alloc (.cells ZH 23)).setCells w3.heap.size 0 (bys hs) = W4 at *
  refine (reftext_any hs HL.out HB.out _).mono ?_
  rintro e w5 ⟨rfl, hb5⟩
  have hsz5 := HSZ5.out
  have HR6 := Lib.hid (rangeAt_below HR4.out hb5 (by omega))
  have HR7 := Lib.hid (rangeAt_below HR5.out hb5 (by omega))
  have hbel := HB5.out.trans (hb5.mono (by omega))
  clear hsz5 hb5
  have heq := HE.out w5
  simp at heq
  have hguard := run_eqGuard_agg (P := Try.prog) w5 .eql 23 (.tmp 33) (.tmp 34) (bys hs).toArray (bys hs).toArray Try.eqg23
  go_wp2_with (first
    | (refine wpList_load_mid_g (by kernel_rfl) 23 (.tmp 5) rfl w3.heap.size 0 rfl (bys hs) _ HR6.out Try.underlying23 rfl (by rw [HSZ.out]; exact Try.size23) ?_)
    | (refine wpList_load_mid_g (by kernel_rfl) 23 (.tmp 1) rfl w.heap.size 0 rfl (bys hs) _ HR7.out Try.underlying23 rfl (by rw [HSZ.out]; exact Try.size23) ?_))
  go_ret
  exact ⟨rfl, hbel⟩
end Go.Proofs.Ytibgbbplbefdpab
