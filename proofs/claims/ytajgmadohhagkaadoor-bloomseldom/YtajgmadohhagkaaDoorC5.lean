/- The law's head and big; texts that came in. -/
import Derived.Test.YtajgmadohhagkaaDoorC4
import Derived.OpenShut
import Derived.ShutString
import Derived.Deep.Fields
import Derived.Test.YtajgmadohhagkaaDoorOpenG
namespace Go.Proofs.YtajgmadohhagkaaDoor
set_option linter.unusedSimpArgs false
set_option linter.unusedVariables false
open Go.RowKit Go.ChangeShapes Go.WideShapes Go.Deep

theorem strs_flat (css : List (List Value)) (h : ∀ c ∈ css, (∃ s : List Nat, ((∀ x ∈ s, x < 256) ∧ s.length ≤ maxLen) ∧ c = [.string (strB s)]) ∧ c.length = 1) : ∃ L : List (List Nat), L.length = css.length ∧ (∀ s ∈ L, (∀ x ∈ s, x < 256) ∧ s.length ≤ maxLen) ∧ css.flatten = strs L := by
  induction css with
  | nil => exact ⟨[], rfl, by simp, rfl⟩
  | cons c r ih =>
    obtain ⟨hs, e1, e2, e3⟩ := ih (fun d hd => h d (by simp [hd]))
    obtain ⟨x, hx, rfl⟩ := (h c (by simp)).1
    exact ⟨x :: hs, by simp [e1], by simpa using ⟨hx, e2⟩, by rw [List.flatten_cons, e3]; rfl⟩
set_option maxRecDepth 100000 in
theorem open_strs {H : Type} {enc : TypeId × Value → H} {W : World} {b0 : Nat} {r : Reach} {v : Value} {d : DataW H} {ps : List MemPlace}
    (hv : Value.okWide Tryd.prog W r b0 22 v) (hd : DataW.Trod enc Tryd.prog W 0 (fun _ => true) true 22 v d ps) :
    ∃ (A : Option Addr) (c : Nat) (L : List (List Nat)), v = .slice A L.length c ∧ Rd W W.heap.size A L.length (strs L) ∧ (∀ s ∈ L, (∀ x ∈ s, x < 256) ∧ s.length ≤ maxLen) ∧ L.length ≤ c ∧ c ≤ maxLen := by
  obtain ⟨A, n, c, rfl⟩ := okWide_slice Tryd.underlying22 hv
  obtain ⟨fuel, hf⟩ := hd
  obtain ⟨A', n', c', css, e, hl, hall, hr, h1, h2⟩ := open_sliceG (s := 1) (T := fun cs => ∃ s : List Nat, ((∀ x ∈ s, x < 256) ∧ s.length ≤ maxLen) ∧ cs = [.string (strB s)]) Tryd.underlying22 (by kernel_rfl) (by omega) (fun fuel cs x h hl => by
    match cs, hl with
    | [c0], _ =>
      obtain ⟨s0, e0, _, m0⟩ := DataW.trod_string Tryd.underlying9 h
      injection e0 with e0
      subst e0
      obtain ⟨bs, rfl, hbs⟩ := str_of s0
      exact ⟨bs, ⟨hbs, by rwa [strB_size] at m0⟩, rfl⟩) hf
  simp [Value.cells] at e
  obtain ⟨rfl, rfl, rfl⟩ := e
  obtain ⟨L, e1, e2, e3⟩ := strs_flat css hall
  rw [e3] at hr
  obtain rfl : n = L.length := by omega
  exact ⟨A, c, L, rfl, ⟨by rw [strs_len], fun h0 => hr.at_ h0⟩, e2, h1, h2⟩

/-- .. the law passes such a list by. -/
def bigS (L : List (List Nat)) : Bool := decide (60 < L.length) || L.any fun s => decide (200 < s.length)
theorem bigS_no (L : List (List Nat)) (h : bigS L = false) : L.length ≤ 60 ∧ ∀ s ∈ L, s.length ≤ 200 := by
  unfold bigS at h
  simp only [Bool.or_eq_false_iff, decide_eq_false_iff_not, List.any_eq_false, decide_eq_true_eq] at h
  exact ⟨by omega, fun s hs => by have := h.2 s hs; omega⟩

set_option maxHeartbeats 1000000 in
theorem big_any (A : Option Addr) (c : Nat) (L : List (List Nat)) (w : World) (hr : Rd w w.heap.size A L.length (strs L)) (hf : ∀ s ∈ L, (∀ x ∈ s, x < 256) ∧ s.length ≤ maxLen) (hlen : L.length ≤ maxLen) :
    Calls Tryd.prog 9 #[.slice A L.length c] w fun e w' => e = .returned (.bool (bigS L)) ∧ w = w' := by
  unfold maxLen at hlen
  generalize hbg : bigS L = bg
  have HBG := Lib.hid hbg
  clear hbg
  have HR := Lib.hid hr
  have HF := Lib.hid hf
  clear hr hf
  by_cases h60 : 60 < L.length
  · have HB : Hid (bg = true) := Lib.hid (by rw [← HBG.out]; unfold bigS; simp [h60])
    generalize L.length = n at *
    go_enter Tryd.func9, Tryd.ntmps9
    go_wp2
    go_ret
    exact ⟨by rw [HB.out]; rfl, rfl⟩
  · obtain ⟨n, hn⟩ : ∃ n, n = L.length := ⟨_, rfl⟩
    rw [← hn] at hlen h60 ⊢
    have HN := Lib.hid hn
    clear hn
    go_enter Tryd.func9, Tryd.ntmps9
    go_wp2
    go_loop [4, 10] (fun s4 s10 => ∃ i : Nat, i ≤ n ∧ s10 = .int .i64 i ∧ Hid ((L.take i).any (fun s => decide (200 < s.length)) = false)) (fun _ i => n - (intOf i).toNat)
    case atStart => exact ⟨0, Nat.zero_le _, rfl, Lib.hid rfl⟩
    case round =>
      obtain ⟨i, hi, rfl, HI⟩ := hrel
      by_cases hlt : i < n
      · obtain ⟨y, hy⟩ : ∃ y, L[i]? = some y := ⟨_, List.getElem?_eq_getElem (by have := HN.out; omega)⟩
        have HY := Lib.hid hy
        have hfit := HF.out y (List.mem_of_getElem? hy)
        obtain ⟨g, off, u, rfl, hgB, hu, hcell⟩ := HR.out.at_ (k := i) (by have := HN.out; omega)
        rw [strs_get L i y hy] at hu
        injection hu with hu
        subst hu
        have hk1 : y.length ≤ 9223372036854775807 := hfit.2
        have hsz : (strB y).size = y.length := strB_size y
        clear hy hfit
        by_cases hB : 200 < y.length
        · have HT : Hid (bg = true) := Lib.hid (by
            rw [← HBG.out]
            unfold bigS
            rw [Bool.or_eq_true]
            refine .inr (List.any_eq_true.2 ⟨y, List.mem_of_getElem? HY.out, ?_⟩)
            simp only [decide_eq_true_eq]
            exact hB)
          have e1 : (200 : Int) < (y.length : Int) := by omega
          go_wp2
          go_ret
          exact ⟨by rw [HT.out]; rfl, rfl⟩
        · have e1 : (y.length : Int) ≤ 200 := by omega
          go_wp2
          go_round
          case measure => simp [intOf]; omega
          case rel =>
            refine ⟨i + 1, by omega, by go_num, Lib.hid ?_⟩
            obtain ⟨hil, rfl⟩ := List.getElem?_eq_some_iff.1 HY.out
            rw [List.take_succ_eq_append_getElem hil, List.any_append, HI.out]
            simp
            omega
      · go_wp2
        go_ret
        refine ⟨?_, rfl⟩
        rw [← HBG.out]
        unfold bigS
        have e : L.take i = L := List.take_of_length_le (by have := HN.out; omega)
        rw [← e, HI.out, e]
        simp
        have := HN.out
        omega

set_option maxHeartbeats 2000000 in
set_option maxRecDepth 100000 in
theorem head_any (w : World) (ht : TabAt w) : Calls Tryd.prog 8 #[] w fun e w' => e = .returned (.bool true) ∧ Below w.heap.size w w' := by
  have ha : strB [97] = { data := #[97] } := rfl
  have hz : Hid (flt (mkF 8 []) = .agg #[.string (strB (mkF 8 []))]) := Lib.hid rfl
  have hy : Hid (flt (mkF 8 [[97]]) = .agg #[.string (strB (mkF 8 [[97]]))]) := Lib.hid rfl
  have e0 : fsz ([] : List (List Nat)).length = 8 := rfl
  have e1 : fsz [([97] : List Nat)].length = 8 := rfl
  have HMk0 := Lib.hid (fun W (hT : TabAt W) => make_any none 0 [] W Rd.nil (by simp) (by decide) hT)
  have HMk1 := Lib.hid (fun W A c hr (hT : TabAt W) => make_any A c [[97]] W hr (by simp) (by decide) hT)
  have HMay0 := Lib.hid (fun W (hT : TabAt W) => may_any (mkF 8 []) [97] (mkF_lt _ _) (by rw [mkF_len]; decide) (by decide) (by decide) W hT)
  have HMay1 := Lib.hid (fun W (hT : TabAt W) => may_any (mkF 8 [[97]]) [97] (mkF_lt _ _) (by rw [mkF_len]; decide) (by decide) (by decide) W hT)
  have HBy := Lib.hid (fun W => bytes_any (mkF 8 [[97]]) (mkF_lt _ _) (by rw [mkF_len]; decide) W)
  rw [may_none 8 (by decide)] at HMay0
  rw [may_in 8 (by decide) [[97]] (by simp) [97] (by simp)] at HMay1
  rw [e0] at HMk0
  rw [e1] at HMk1
  simp only [List.length_cons, List.length_nil, Nat.zero_add] at HMk1
  rw [hz.out] at HMk0 HMay0
  rw [hy.out] at HMk1 HMay1 HBy
  rw [mkF_len] at HBy
  generalize strB (mkF 8 []) = F0 at *
  generalize strB (mkF 8 [[97]]) = F1 at *
  rw [ha] at HMay0 HMay1
  have HT := Lib.hid ht
  clear ht
  go_enter Tryd.func8, Tryd.ntmps8
  go_wp2_with fail
  refine (HMk0.out _ HT.out).mono ?_
  rintro e w1 ⟨rfl, hb1⟩
  have HB1 := Lib.hid hb1
  have s1 := hb1.size
  clear hb1
  go_upto_region 2 with fail
  obtain ⟨w2, hw2⟩ : ∃ w2, w2 = w1.alloc (.cells #[.string F0] 26) := ⟨_, rfl⟩
  rw [← hw2]
  have b2 : Below w.heap.size w w2 := by rw [hw2]; exact HB1.out.alloc s1 _
  have c2 : w2.cell? ⟨w1.heap.size, 0, none⟩ = some (.string F0) := by rw [hw2, World.cell?_alloc_mark]; rfl
  have z2 : w2.heap.size = w1.heap.size + 1 := by rw [hw2]; simp
  obtain ⟨g1, hg1⟩ : ∃ g1, g1 = w1.heap.size := ⟨_, rfl⟩
  rw [← hg1] at c2 z2 s1 ⊢
  clear hw2 hg1
  have r3 : Rd (w2.alloc (.cells #[.string { data := #[97] }] 9)) (w2.alloc (.cells #[.string { data := #[97] }] 9)).heap.size (some ⟨w2.heap.size, 0, none⟩) 1 (strs [[97]]) := by
    have := Rd.lit w2 #[.string { data := #[97] }] 9 1 rfl
    rw [World.size_alloc]
    exact this
  have b3 : Below w.heap.size w (w2.alloc (.cells #[.string { data := #[97] }] 9)) := b2.alloc (by omega) _
  have HB3 := Lib.hid b3
  have HC3 := Lib.hid (HMk1.out _ _ 1 r3 (HT.out.below b3 HT.out.1))
  have HZ2 := Lib.hid z2
  clear b3 r3 b2 z2
  go_wp2_with fail
  have z2 := HZ2.out
  refine HC3.out.mono ?_
  rintro e w3 ⟨rfl, hb3⟩
  have HB4 := Lib.hid (HB3.out.trans (hb3.mono (by simp; omega)))
  have c3 : w3.cell? ⟨g1, 0, none⟩ = some (.string F0) := (hb3.cell (p := ⟨g1, 0, none⟩) (by show g1 < _; simp; omega)).trans (by rw [((Below.refl _ w2).alloc (Nat.le_refl _) _).cell (p := ⟨g1, 0, none⟩) (by show g1 < _; omega)]; exact c2)
  have z3 : g1 < w3.heap.size := by have := hb3.size; simp at this; omega
  clear hb3 c2 HC3 HB3 z2
  go_upto_region 3 with fail
  obtain ⟨w4, hw4⟩ : ∃ w4, w4 = w3.alloc (.cells #[.string F1] 26) := ⟨_, rfl⟩
  rw [← hw4]
  have s3 : w.heap.size ≤ w3.heap.size := HB4.out.size
  have b4 : Below w.heap.size w w4 := by rw [hw4]; exact HB4.out.alloc s3 _
  have c4 : w4.cell? ⟨w3.heap.size, 0, none⟩ = some (.string F1) := by rw [hw4, World.cell?_alloc_mark]; rfl
  have d4 : w4.cell? ⟨g1, 0, none⟩ = some (.string F0) := by rw [hw4, ((Below.refl _ w3).alloc (Nat.le_refl _) _).cell (p := ⟨g1, 0, none⟩) z3]; exact c3
  have z4 : w4.heap.size = w3.heap.size + 1 := by rw [hw4]; simp
  obtain ⟨g3, hg3⟩ : ∃ g3, g3 = w3.heap.size := ⟨_, rfl⟩
  rw [← hg3] at c4 z4 z3 s3 ⊢
  clear hw4 hg3 c3
  have HB5 := Lib.hid b4
  have z4' : g3 < w4.heap.size := by omega
  clear b4 z4
  go_wp2_with fail
  refine (HMay0.out _ (HT.out.below HB5.out HT.out.1)).mono ?_
  rintro e w5 ⟨rfl, hb5⟩
  have HB6 := Lib.hid (HB5.out.trans (hb5.mono (by omega)))
  have c5 : w5.cell? ⟨g3, 0, none⟩ = some (.string F1) := (hb5.cell (p := ⟨g3, 0, none⟩) (by show g3 < _; omega)).trans c4
  have z5 := hb5.size
  clear hb5 HB5 d4
  go_wp2_with fail
  refine (HMay1.out _ (HT.out.below HB6.out HT.out.1)).mono ?_
  rintro e w6 ⟨rfl, hb6⟩
  have HB7 := Lib.hid (HB6.out.trans (hb6.mono (by omega)))
  have c6 : w6.cell? ⟨g3, 0, none⟩ = some (.string F1) := (hb6.cell (p := ⟨g3, 0, none⟩) (by show g3 < _; omega)).trans c5
  have z6 := hb6.size
  clear hb6 HB6 c5
  go_wp2_with fail
  refine (HBy.out _).mono ?_
  rintro e w7 ⟨A, c, rfl, _, _, hb7⟩
  have HB8 := Lib.hid (HB7.out.trans (hb7.mono (by omega)))
  clear hb7
  go_wp2
  go_ret
  exact ⟨rfl, HB8.out⟩
end Go.Proofs.YtajgmadohhagkaaDoor
