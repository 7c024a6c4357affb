/- slices.BinarySearchFunc at entries, in the order of entries. -/
import Derived.Test.YtgdkcnpgnmmliabS1
namespace Go.Proofs.Ytgdkcnpgnmmliab
set_option linter.unusedSimpArgs false
set_option linter.unusedVariables false
open Go.RowKit

abbrev fCmp : Value := .func (.func 19) #[] #[]
theorem cmp_en (x y : En) (w : World) : Calls Try.prog 19 #[x.val, y.val] w fun e w' => e = .returned (.int .i64 (cmpE x y)) ∧ Below w.heap.size w w' := cmp_any x.k x.S x.d x.v y.k y.S y.d y.v w
/-- Entry i of a slice that reads as L, cell by cell. -/
theorem RdN.ent {w : World} {B : Nat} {A : Option Addr} {L : List En} (h : RdN w B 4 A L.length (flat L)) (i : Nat) (y : En) (hy : L[i]? = some y) : ∃ g off, A = some ⟨g, off, none⟩ ∧ g < B ∧
    w.cell? ⟨g, off + i * 4, none⟩ = some (.string y.k) ∧ w.cell? ⟨g, off + i * 4 + 1, none⟩ = some (.int .u64 y.S) ∧ w.cell? ⟨g, off + i * 4 + 2, none⟩ = some (.bool y.d) ∧ w.cell? ⟨g, off + i * 4 + 3, none⟩ = some (.string y.v) := by
  have hi : i < L.length := (List.getElem?_eq_some_iff.1 hy).1
  obtain ⟨g, off, e, hg, hc⟩ := h.at_ (by omega)
  have f := fun j u hu => hc (i * 4 + j) u (flat_get L i y hy j u hu)
  exact ⟨g, off, e, hg, by have := f 0 _ rfl; rwa [Nat.add_zero] at this, by have := f 1 _ rfl; rwa [← Nat.add_assoc] at this, by have := f 2 _ rfl; rwa [← Nat.add_assoc] at this, by have := f 3 _ rfl; rwa [← Nat.add_assoc] at this⟩

/-- An entry at (g, o), another one at (b, 0). -/
def Two (w : World) (g o b : Nat) (y x : En) : Prop := w.cell? ⟨g, o, none⟩ = some (.string y.k) ∧ w.cell? ⟨g, o + 1, none⟩ = some (.int .u64 y.S) ∧ w.cell? ⟨g, o + 2, none⟩ = some (.bool y.d) ∧ w.cell? ⟨g, o + 3, none⟩ = some (.string y.v) ∧
  w.cell? ⟨b, 0, none⟩ = some (.string x.k) ∧ w.cell? ⟨b, 1, none⟩ = some (.int .u64 x.S) ∧ w.cell? ⟨b, 2, none⟩ = some (.bool x.d) ∧ w.cell? ⟨b, 3, none⟩ = some (.string x.v)
theorem Two.below {w w' : World} {g o b B : Nat} {y x : En} (h : Two w g o b y x) (hb : Below B w w') (hg : g < B) (hbb : b < B) : Two w' g o b y x := by
  obtain ⟨c0, c1, c2, c3, x0, x1, x2, x3⟩ := h
  exact ⟨(hb.cell (p := ⟨g, _, none⟩) hg).trans c0, (hb.cell (p := ⟨g, _, none⟩) hg).trans c1, (hb.cell (p := ⟨g, _, none⟩) hg).trans c2, (hb.cell (p := ⟨g, _, none⟩) hg).trans c3,
    (hb.cell (p := ⟨b, _, none⟩) hbb).trans x0, (hb.cell (p := ⟨b, _, none⟩) hbb).trans x1, (hb.cell (p := ⟨b, _, none⟩) hbb).trans x2, (hb.cell (p := ⟨b, _, none⟩) hbb).trans x3⟩

set_option maxHeartbeats 1000000 in
set_option maxRecDepth 100000 in
theorem bs_any (A : Option Addr) (c : Nat) (L : List En) (x : En) (w : World) (hr : RdN w w.heap.size 4 A L.length (flat L)) (hn6 : (L.length : Int) ≤ 1000000) (hS : Srt cmpE L) :
    Calls Try.prog 50 #[.slice A L.length c, x.val, fCmp] w fun e w' =>
      e = .returned (.tuple #[.int .i64 (pos cmpE L x : Nat), .bool (hit cmpE L x)]) ∧ Below w.heap.size w w' := by
  generalize hp : pos cmpE L x = p
  generalize hh : hit cmpE L x = H
  have HP := Lib.hid hp
  have HH := Lib.hid hh
  have HS := Lib.hid hS
  have HR := Lib.hid hr
  clear hp hh hS hr
  obtain ⟨n, hn⟩ : ∃ n, n = L.length := ⟨_, rfl⟩
  rw [← hn] at hn6 ⊢
  have HN := Lib.hid hn
  clear hn
  go_enter Try.func50, Try.ntmps50
  go_wp2
  generalize hw0 : w.alloc (.cells #[.string x.k, .int .u64 x.S, .bool x.d, .string x.v] 42) = w0
  have HB0 : Hid (Below w.heap.size w w0) := by rw [← hw0]; exact Lib.hid ((Below.refl _ _).alloc (Nat.le_refl _) _)
  have HX0 : Hid (Bx4 w0 w.heap.size (.string x.k) (.int .u64 x.S) (.bool x.d) (.string x.v)) := by rw [← hw0]; exact Lib.hid (Bx4.new w _ _ _ _ _)
  clear hw0
  generalize hb : w.heap.size = b at *
  have HBb := Lib.hid hb
  clear hb
  go_loopg [9, 10, 11] n (fun kx s9 s10 s11 wr => ∃ lo hi : Nat, s9 = .int .i64 lo ∧ s10 = .int .i64 hi ∧ lo ≤ hi ∧ hi ≤ n ∧ hi - lo ≤ kx ∧ Hid (Below (b + 1) w0 wr) ∧
    Hid ((∀ m y, m < lo → L[m]? = some y → cmpE y x < 0) ∧ (∀ m y, hi ≤ m → L[m]? = some y → ¬ cmpE y x < 0)))
  case atStart => exact ⟨0, n, rfl, rfl, Nat.zero_le _, Nat.le_refl _, by omega, Lib.hid (Below.refl _ _), Lib.hid ⟨fun m y h => absurd h (Nat.not_lt_zero _), fun m y h1 h2 => by have := (List.getElem?_eq_some_iff.1 h2).1; have := HN.out; omega⟩⟩
  case round =>
    obtain ⟨lo, hi, rfl, rfl, hlh, hin, hg, HW, HI⟩ := hrel
    by_cases hlt : lo < hi
    · have hm : (lo + hi) / 2 < n := by omega
      obtain ⟨m, hmm⟩ : ∃ m, m = (lo + hi) / 2 := ⟨_, rfl⟩
      obtain ⟨y, hy⟩ : ∃ y, L[m]? = some y := ⟨_, List.getElem?_eq_getElem (by have := HN.out; omega)⟩
      have HY := Lib.hid hy
      obtain ⟨g, off, rfl, hgb, c0, c1, c2, c3⟩ := (HR.out.below (HB0.out.trans (HW.out.mono (by omega)))).ent m y hy
      clear hy
      have X := HX0.out.keep (HW.out.block b (by omega))
      have hsz : b + 1 ≤ wr.heap.size := X.lt
      have HT : Hid (∀ wx, Below wr.heap.size wr wx → Two wx g (off + m * 4) b y x) := Lib.hid fun wx h => Two.below ⟨c0, c1, c2, c3, X.c0, X.c1, X.c2, X.c3⟩ h (by omega) hsz
      clear c0 c1 c2 c3 X
      have hc := fun W => cmp_en y x W
      generalize hz : cmpE y x = z at hc
      have HZ := Lib.hid hz
      clear hz
      go_upto_region 5 with fail
      have e : ((lo : Int) + (hi : Int)) / 2 = (m : Int) := by omega
      rw [e]
      have HM := Lib.hid hmm
      have hmn : m < n := by omega
      clear e hmm hm
      have HB8 := Lib.hid HW.out
      clear HW HX0 HB0
      refine wp_region_noPanic ?_
      refine wp_region_held_drew (S := (fun wx => Below wr.heap.size wr wx ∧ wx.cell? ⟨g, off + m * 4, none⟩ = some (.string y.k) ∧ wx.cell? ⟨g, off + m * 4 + 1, none⟩ = some (.int .u64 y.S) ∧ wx.cell? ⟨g, off + m * 4 + 2, none⟩ = some (.bool y.d) ∧ wx.cell? ⟨g, off + m * 4 + 3, none⟩ = some (.string y.v) ∧ wx.cell? ⟨b, 0, none⟩ = some (.string x.k) ∧ wx.cell? ⟨b, 1, none⟩ = some (.int .u64 x.S) ∧ wx.cell? ⟨b, 2, none⟩ = some (.bool x.d) ∧ wx.cell? ⟨b, 3, none⟩ = some (.string x.v))) (by kernel_rfl) (⟨(Below.refl _ _).drew, HT.out _ (Below.refl _ _).drew⟩) (fun hHeld => ?_)
      refine wpAnyH_take (i := 0) (v := ?_) (by simp only [List.getElem?_toArray, List.getElem?_cons_succ, List.getElem?_cons_zero]; rfl) (by kernel_rfl) (by kernel_rfl) (by kernel_rfl) (fun _ _ _ h => h) (Or.inl ⟨by rfl, ?_⟩) (by assumption) ?_
      rotate_left
      · (intro w hSw; (try dsimp only at hSw); go_simp; (try with_reducible rfl))
      (try simp only [Act.put, List.setIfInBounds_toArray, List.set_cons_zero, List.set_cons_succ])
      refine wpAnyH_take (i := 1) (v := ?_) (by simp only [List.getElem?_toArray, List.getElem?_cons_succ, List.getElem?_cons_zero]; rfl) (by kernel_rfl) (by kernel_rfl) (by kernel_rfl) (fun _ _ _ h => h) (Or.inl ⟨by rfl, ?_⟩) (by assumption) ?_
      rotate_left
      · (intro w hSw; (try dsimp only at hSw); go_simp; (try with_reducible rfl))
      (try simp only [Act.put, List.setIfInBounds_toArray, List.set_cons_zero, List.set_cons_succ])
      refine wpAnyH_take (i := 2) (v := ?_) (by simp only [List.getElem?_toArray, List.getElem?_cons_succ, List.getElem?_cons_zero]; rfl) (by kernel_rfl) (by kernel_rfl) (by kernel_rfl) (fun _ _ _ h => h) (Or.inl ⟨by rfl, ?_⟩) (by assumption) ?_
      rotate_left
      · (intro w hSw; (try dsimp only at hSw); go_simp; (try with_reducible rfl))
      (try simp only [Act.put, List.setIfInBounds_toArray, List.set_cons_zero, List.set_cons_succ])
      refine wpAnyH_take (i := 3) (v := ?_) (by simp only [List.getElem?_toArray, List.getElem?_cons_succ, List.getElem?_cons_zero]; rfl) (by kernel_rfl) (by kernel_rfl) (by kernel_rfl) (fun _ _ _ h => h) (Or.inl ⟨by rfl, ?_⟩) (by assumption) ?_
      rotate_left
      · (intro w hSw; (try dsimp only at hSw); go_simp; (try with_reducible rfl))
      (try simp only [Act.put, List.setIfInBounds_toArray, List.set_cons_zero, List.set_cons_succ])
      refine wpAnyH_take (i := 4) (v := ?_) (by simp only [List.getElem?_toArray, List.getElem?_cons_succ, List.getElem?_cons_zero]; rfl) (by kernel_rfl) (by kernel_rfl) (by kernel_rfl) (fun _ _ _ h => h) (Or.inl ⟨by rfl, ?_⟩) (by assumption) ?_
      rotate_left
      · (intro w hSw; (try dsimp only at hSw); go_simp; (try with_reducible rfl))
      (try simp only [Act.put, List.setIfInBounds_toArray, List.set_cons_zero, List.set_cons_succ])
      refine wpAnyH_take (i := 5) (v := ?_) (by simp only [List.getElem?_toArray, List.getElem?_cons_succ, List.getElem?_cons_zero]; rfl) (by kernel_rfl) (by kernel_rfl) (by kernel_rfl) (fun _ _ _ h => h) (Or.inl ⟨by rfl, ?_⟩) (by assumption) ?_
      rotate_left
      · (intro w hSw; (try dsimp only at hSw); go_simp; (try with_reducible rfl))
      (try simp only [Act.put, List.setIfInBounds_toArray, List.set_cons_zero, List.set_cons_succ])
      refine wpAnyH_ready (rs := [6]) (by kernel_rfl) (by simp) ?_
      refine AllReadyH.cons (by simp only [List.getElem?_toArray, List.getElem?_cons_succ, List.getElem?_cons_zero]; rfl) (fun K hK => ?_) AllReadyH.nil
      go_simp
      refine (hc _).mono ?_
      rintro ee w' ⟨rfl, hb'⟩
      have hB2 := hHeld.1.trans (hb'.mono hHeld.1.size)
      refine hK.out _ _ ?_ (fun hHeld => ?_)
      · exact ⟨hB2, HT.out _ hB2⟩
      clear hK K
      (try simp only [Act.put, List.setIfInBounds_toArray, List.set_cons_zero, List.set_cons_succ])
      refine wpAnyH_take (i := 7) (v := ?_) (by simp only [List.getElem?_toArray, List.getElem?_cons_succ, List.getElem?_cons_zero]; rfl) (by kernel_rfl) (by kernel_rfl) (by kernel_rfl) (fun _ _ _ h => h) (Or.inl ⟨by rfl, ?_⟩) (by assumption) ?_
      rotate_left
      · (intro w hSw; (try dsimp only at hSw); go_simp; (try with_reducible rfl))
      (try simp only [Act.put, List.setIfInBounds_toArray, List.set_cons_zero, List.set_cons_succ])
      refine wpAnyH_done (by kernel_rfl) ?_ _
      refine NoPanic.normal ?_
      have HB9 := Lib.hid (HB8.out.trans (hB2.mono hsz))
      clear hB2 hb' hHeld
      by_cases hz0 : z < 0
      · go_wp2
        go_roundg (hi - (m + 1))
        case measure => have := HM.out; omega
        case rel =>
          refine ⟨m + 1, hi, by go_num, rfl, by have := HM.out; omega, hin, Nat.le_refl _, HB9, Lib.hid ⟨fun t u ht hu => ?_, HI.out.2⟩⟩
          exact HS.out.mono ordE x t m u y (by omega) hu HY.out (by rw [HZ.out]; exact hz0)
      · go_wp2
        go_roundg (m - lo)
        case measure => have := HM.out; omega
        case rel =>
          refine ⟨lo, m, rfl, rfl, by have := HM.out; omega, by omega, Nat.le_refl _, HB9, Lib.hid ⟨HI.out.1, fun t u ht hu => Int.not_lt.1 fun h => absurd (show z < 0 from ?_) (by omega)⟩⟩
          rw [← HZ.out]
          exact HS.out.mono ordE x m t y u ht HY.out hu h
    · obtain rfl : lo = hi := by omega
      have hpl : p = lo := by
        rw [← HP.out]
        exact pos_eq cmpE L x lo (by have := HN.out; omega) HI.out.1 (fun u hu => HI.out.2 lo u (Nat.le_refl _) hu)
      have HPL := Lib.hid hpl
      clear hpl
      by_cases hln : lo < n
      · obtain ⟨y, hy⟩ : ∃ y, L[lo]? = some y := ⟨_, List.getElem?_eq_getElem (by have := HN.out; omega)⟩
        have hz' : H = decide (cmpE y x = 0) := by
          rw [← HH.out]
          unfold hit
          rw [HP.out, HPL.out, hy]
        obtain ⟨g, off, rfl, hgb, c0, c1, c2, c3⟩ := (HR.out.below (HB0.out.trans (HW.out.mono (by omega)))).ent lo y hy
        have X := HX0.out.keep (HW.out.block b (by omega))
        have hsz : b + 1 ≤ wr.heap.size := X.lt
        have HT : Hid (∀ wx, Below wr.heap.size wr wx → Two wx g (off + lo * 4) b y x) := Lib.hid fun wx h => Two.below ⟨c0, c1, c2, c3, X.c0, X.c1, X.c2, X.c3⟩ h (by omega) hsz
        clear c0 c1 c2 c3 X hy
        have hc := fun W => cmp_en y x W
        generalize hz : cmpE y x = z at hc hz'
        have HZ := Lib.hid hz'
        have HB8 := Lib.hid (HB0.out.trans (HW.out.mono (Nat.le_succ b)))
        clear hz hz' HW HX0 HB0
        go_upto_region 8 with fail
        refine wp_region_noPanic ?_
        refine wp_region_held_drew (S := (fun wx => Below wr.heap.size wr wx ∧ wx.cell? ⟨g, off + lo * 4, none⟩ = some (.string y.k) ∧ wx.cell? ⟨g, off + lo * 4 + 1, none⟩ = some (.int .u64 y.S) ∧ wx.cell? ⟨g, off + lo * 4 + 2, none⟩ = some (.bool y.d) ∧ wx.cell? ⟨g, off + lo * 4 + 3, none⟩ = some (.string y.v) ∧ wx.cell? ⟨b, 0, none⟩ = some (.string x.k) ∧ wx.cell? ⟨b, 1, none⟩ = some (.int .u64 x.S) ∧ wx.cell? ⟨b, 2, none⟩ = some (.bool x.d) ∧ wx.cell? ⟨b, 3, none⟩ = some (.string x.v))) (by kernel_rfl) (⟨(Below.refl _ _).drew, HT.out _ (Below.refl _ _).drew⟩) (fun hHeld => ?_)
        refine wpAnyH_take (i := 0) (v := ?_) (by simp only [List.getElem?_toArray, List.getElem?_cons_succ, List.getElem?_cons_zero]; rfl) (by kernel_rfl) (by kernel_rfl) (by kernel_rfl) (fun _ _ _ h => h) (Or.inl ⟨by rfl, ?_⟩) (by assumption) ?_
        rotate_left
        · (intro w hSw; (try dsimp only at hSw); go_simp; (try with_reducible rfl))
        (try simp only [Act.put, List.setIfInBounds_toArray, List.set_cons_zero, List.set_cons_succ])
        refine wpAnyH_take (i := 1) (v := ?_) (by simp only [List.getElem?_toArray, List.getElem?_cons_succ, List.getElem?_cons_zero]; rfl) (by kernel_rfl) (by kernel_rfl) (by kernel_rfl) (fun _ _ _ h => h) (Or.inl ⟨by rfl, ?_⟩) (by assumption) ?_
        rotate_left
        · (intro w hSw; (try dsimp only at hSw); go_simp; (try with_reducible rfl))
        (try simp only [Act.put, List.setIfInBounds_toArray, List.set_cons_zero, List.set_cons_succ])
        refine wpAnyH_take (i := 2) (v := ?_) (by simp only [List.getElem?_toArray, List.getElem?_cons_succ, List.getElem?_cons_zero]; rfl) (by kernel_rfl) (by kernel_rfl) (by kernel_rfl) (fun _ _ _ h => h) (Or.inl ⟨by rfl, ?_⟩) (by assumption) ?_
        rotate_left
        · (intro w hSw; (try dsimp only at hSw); go_simp; (try with_reducible rfl))
        (try simp only [Act.put, List.setIfInBounds_toArray, List.set_cons_zero, List.set_cons_succ])
        refine wpAnyH_take (i := 3) (v := ?_) (by simp only [List.getElem?_toArray, List.getElem?_cons_succ, List.getElem?_cons_zero]; rfl) (by kernel_rfl) (by kernel_rfl) (by kernel_rfl) (fun _ _ _ h => h) (Or.inl ⟨by rfl, ?_⟩) (by assumption) ?_
        rotate_left
        · (intro w hSw; (try dsimp only at hSw); go_simp; (try with_reducible rfl))
        (try simp only [Act.put, List.setIfInBounds_toArray, List.set_cons_zero, List.set_cons_succ])
        refine wpAnyH_take (i := 4) (v := ?_) (by simp only [List.getElem?_toArray, List.getElem?_cons_succ, List.getElem?_cons_zero]; rfl) (by kernel_rfl) (by kernel_rfl) (by kernel_rfl) (fun _ _ _ h => h) (Or.inl ⟨by rfl, ?_⟩) (by assumption) ?_
        rotate_left
        · (intro w hSw; (try dsimp only at hSw); go_simp; (try with_reducible rfl))
        (try simp only [Act.put, List.setIfInBounds_toArray, List.set_cons_zero, List.set_cons_succ])
        refine wpAnyH_take (i := 5) (v := ?_) (by simp only [List.getElem?_toArray, List.getElem?_cons_succ, List.getElem?_cons_zero]; rfl) (by kernel_rfl) (by kernel_rfl) (by kernel_rfl) (fun _ _ _ h => h) (Or.inl ⟨by rfl, ?_⟩) (by assumption) ?_
        rotate_left
        · (intro w hSw; (try dsimp only at hSw); go_simp; (try with_reducible rfl))
        (try simp only [Act.put, List.setIfInBounds_toArray, List.set_cons_zero, List.set_cons_succ])
        refine wpAnyH_take (i := 6) (v := ?_) (by simp only [List.getElem?_toArray, List.getElem?_cons_succ, List.getElem?_cons_zero]; rfl) (by kernel_rfl) (by kernel_rfl) (by kernel_rfl) (fun _ _ _ h => h) (Or.inl ⟨by rfl, ?_⟩) (by assumption) ?_
        rotate_left
        · (intro w hSw; (try dsimp only at hSw); go_simp; (try with_reducible rfl))
        (try simp only [Act.put, List.setIfInBounds_toArray, List.set_cons_zero, List.set_cons_succ])
        refine wpAnyH_take (i := 7) (v := ?_) (by simp only [List.getElem?_toArray, List.getElem?_cons_succ, List.getElem?_cons_zero]; rfl) (by kernel_rfl) (by kernel_rfl) (by kernel_rfl) (fun _ _ _ h => h) (Or.inl ⟨by rfl, ?_⟩) (by assumption) ?_
        rotate_left
        · (intro w hSw; (try dsimp only at hSw); go_simp; (try with_reducible rfl))
        (try simp only [Act.put, List.setIfInBounds_toArray, List.set_cons_zero, List.set_cons_succ])
        refine wpAnyH_take (i := 8) (v := ?_) (by simp only [List.getElem?_toArray, List.getElem?_cons_succ, List.getElem?_cons_zero]; rfl) (by kernel_rfl) (by kernel_rfl) (by kernel_rfl) (fun _ _ _ h => h) (Or.inl ⟨by rfl, ?_⟩) (by assumption) ?_
        rotate_left
        · (intro w hSw; (try dsimp only at hSw); go_simp; (try with_reducible rfl))
        (try simp only [Act.put, List.setIfInBounds_toArray, List.set_cons_zero, List.set_cons_succ])
        refine wpAnyH_take (i := 9) (v := ?_) (by simp only [List.getElem?_toArray, List.getElem?_cons_succ, List.getElem?_cons_zero]; rfl) (by kernel_rfl) (by kernel_rfl) (by kernel_rfl) (fun _ _ _ h => h) (Or.inl ⟨by rfl, ?_⟩) (by assumption) ?_
        rotate_left
        · (intro w hSw; (try dsimp only at hSw); go_simp; (try with_reducible rfl))
        (try simp only [Act.put, List.setIfInBounds_toArray, List.set_cons_zero, List.set_cons_succ])
        refine wpAnyH_take (i := 10) (v := ?_) (by simp only [List.getElem?_toArray, List.getElem?_cons_succ, List.getElem?_cons_zero]; rfl) (by kernel_rfl) (by kernel_rfl) (by kernel_rfl) (fun _ _ _ h => h) (Or.inl ⟨by rfl, ?_⟩) (by assumption) ?_
        rotate_left
        · (intro w hSw; (try dsimp only at hSw); go_simp; (try with_reducible rfl))
        (try simp only [Act.put, List.setIfInBounds_toArray, List.set_cons_zero, List.set_cons_succ])
        refine wpAnyH_ready (rs := [11]) (by kernel_rfl) (by simp) ?_
        refine AllReadyH.cons (by simp only [List.getElem?_toArray, List.getElem?_cons_succ, List.getElem?_cons_zero]; rfl) (fun K hK => ?_) AllReadyH.nil
        go_simp
        refine (hc _).mono ?_
        rintro ee w' ⟨rfl, hb'⟩
        have hB2 := hHeld.1.trans (hb'.mono hHeld.1.size)
        refine hK.out _ _ ?_ (fun hHeld => ?_)
        · exact ⟨hB2, HT.out _ hB2⟩
        clear hK K
        (try simp only [Act.put, List.setIfInBounds_toArray, List.set_cons_zero, List.set_cons_succ])
        refine wpAnyH_take (i := 12) (v := ?_) (by simp only [List.getElem?_toArray, List.getElem?_cons_succ, List.getElem?_cons_zero]; rfl) (by kernel_rfl) (by kernel_rfl) (by kernel_rfl) (fun _ _ _ h => h) (Or.inl ⟨by rfl, ?_⟩) (by assumption) ?_
        rotate_left
        · (intro w hSw; (try dsimp only at hSw); go_simp; (try with_reducible rfl))
        (try simp only [Act.put, List.setIfInBounds_toArray, List.set_cons_zero, List.set_cons_succ])
        refine wpAnyH_take (i := 13) (v := ?_) (by simp only [List.getElem?_toArray, List.getElem?_cons_succ, List.getElem?_cons_zero]; rfl) (by kernel_rfl) (by kernel_rfl) (by kernel_rfl) (fun _ _ _ h => h) (Or.inl ⟨by rfl, ?_⟩) (by assumption) ?_
        rotate_left
        · (intro w hSw; (try dsimp only at hSw); go_simp; (try with_reducible rfl))
        (try simp only [Act.put, List.setIfInBounds_toArray, List.set_cons_zero, List.set_cons_succ])
        refine wpAnyH_take (i := 14) (v := ?_) (by simp only [List.getElem?_toArray, List.getElem?_cons_succ, List.getElem?_cons_zero]; rfl) (by kernel_rfl) (by kernel_rfl) (by kernel_rfl) (fun _ _ _ h => h) (Or.inl ⟨by rfl, ?_⟩) (by assumption) ?_
        rotate_left
        · (intro w hSw; (try dsimp only at hSw); go_simp; (try with_reducible rfl))
        (try simp only [Act.put, List.setIfInBounds_toArray, List.set_cons_zero, List.set_cons_succ])
        refine wpAnyH_take (i := 15) (v := ?_) (by simp only [List.getElem?_toArray, List.getElem?_cons_succ, List.getElem?_cons_zero]; rfl) (by kernel_rfl) (by kernel_rfl) (by kernel_rfl) (fun _ _ _ h => h) (Or.inl ⟨by rfl, ?_⟩) (by assumption) ?_
        rotate_left
        · (intro w hSw; (try dsimp only at hSw); go_simp; (try with_reducible rfl))
        (try simp only [Act.put, List.setIfInBounds_toArray, List.set_cons_zero, List.set_cons_succ])
        refine wpAnyH_done (by kernel_rfl) ?_ _
        refine NoPanic.normal ?_
        have HB9 := Lib.hid (HB8.out.trans (hB2.mono (by omega)))
        clear hB2 hb' hHeld
        go_wp2
        go_ret2
        refine ⟨?_, by rw [HBb.out]; exact HB9.out⟩
        rw [HPL.out, HZ.out]
        rfl
      · have hd : decide ((lo : Int) < (n : Int)) = false := by simp; omega
        have hd2 : decide (lo < n) = false := by simp; omega
        have hH : H = false := by
          rw [← HH.out]
          unfold hit
          rw [HP.out, HPL.out, List.getElem?_eq_none (by have := HN.out; omega)]
        have HB8 := Lib.hid (HB0.out.trans (HW.out.mono (Nat.le_succ b)))
        have H9 := Lib.hid hH
        clear hH
        go_upto_region 8 with fail
        go_quiet (fail)
        go_wp2
        go_ret2
        refine ⟨?_, ?_⟩
        · rw [HPL.out, H9.out]
          rfl
        · rw [HBb.out]
          exact ⟨HB8.out.os, HB8.out.tape, HB8.out.output, HB8.out.size, HB8.out.block⟩
end Go.Proofs.Ytgdkcnpgnmmliab
