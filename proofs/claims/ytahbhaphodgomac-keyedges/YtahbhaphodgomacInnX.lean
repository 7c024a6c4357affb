/- The walk of KeyInners: entries that are right. -/
import Derived.Test.YtahbhaphodgomacInnW
import Derived.Test.YtahbhaphodgomacOutW
namespace Go.Proofs.Ytahbhaphodgomac
set_option linter.unusedSimpArgs false
set_option linter.unusedVariables false
open Go.RowKit

section
variable {w0 w w' : World} {a : ByteArray} {S : Int} {d : Bool} {u : ByteArray} {b : ByteArray} {T : Int} {e : Bool} {v : ByteArray}
theorem At2.cells (h : At2 w0 w a S d u b T e v) : w.cell? ⟨w0.heap.size, 0, none⟩ = some (.string a) ∧ w.cell? ⟨w0.heap.size, 1, none⟩ = some (.int .u64 S) ∧ w.cell? ⟨w0.heap.size, 2, none⟩ = some (.bool d) ∧ w.cell? ⟨w0.heap.size, 3, none⟩ = some (.string u) ∧ w.cell? ⟨w0.heap.size + 1, 0, none⟩ = some (.string b) ∧ w.cell? ⟨w0.heap.size + 1, 1, none⟩ = some (.int .u64 T) ∧ w.cell? ⟨w0.heap.size + 1, 2, none⟩ = some (.bool e) ∧ w.cell? ⟨w0.heap.size + 1, 3, none⟩ = some (.string v) ∧ At2 w0 w a S d u b T e v :=
  ⟨h.x4.c0, h.x4.c1, h.x4.c2, h.x4.c3, h.y4.c0, h.y4.c1, h.y4.c2, h.y4.c3, h⟩
theorem At2.again (h : w.cell? ⟨w0.heap.size, 0, none⟩ = some (.string a) ∧ w.cell? ⟨w0.heap.size, 1, none⟩ = some (.int .u64 S) ∧ w.cell? ⟨w0.heap.size, 2, none⟩ = some (.bool d) ∧ w.cell? ⟨w0.heap.size, 3, none⟩ = some (.string u) ∧ w.cell? ⟨w0.heap.size + 1, 0, none⟩ = some (.string b) ∧ w.cell? ⟨w0.heap.size + 1, 1, none⟩ = some (.int .u64 T) ∧ w.cell? ⟨w0.heap.size + 1, 2, none⟩ = some (.bool e) ∧ w.cell? ⟨w0.heap.size + 1, 3, none⟩ = some (.string v) ∧ At2 w0 w a S d u b T e v) (hb : Below w.heap.size w w') : w'.cell? ⟨w0.heap.size, 0, none⟩ = some (.string a) ∧ w'.cell? ⟨w0.heap.size, 1, none⟩ = some (.int .u64 S) ∧ w'.cell? ⟨w0.heap.size, 2, none⟩ = some (.bool d) ∧ w'.cell? ⟨w0.heap.size, 3, none⟩ = some (.string u) ∧ w'.cell? ⟨w0.heap.size + 1, 0, none⟩ = some (.string b) ∧ w'.cell? ⟨w0.heap.size + 1, 1, none⟩ = some (.int .u64 T) ∧ w'.cell? ⟨w0.heap.size + 1, 2, none⟩ = some (.bool e) ∧ w'.cell? ⟨w0.heap.size + 1, 3, none⟩ = some (.string v) ∧ At2 w0 w' a S d u b T e v := by
  obtain ⟨_, _, _, _, _, _, _, _, h⟩ := h
  exact (h.below hb).cells
end

theorem chk0 (n : Nat) (S : Int) (d : Bool) (m : Nat) (h : chk n S d m = 0) : n ≠ 0 ∧ n ≤ 128 ∧ S ≤ 72057594037927935 ∧ m ≤ 65536 ∧ (d = true → m = 0) := by
  unfold chk at h
  split at h
  · cases h
  · split at h
    · cases h
    · rename_i h1 h2
      refine ⟨fun e => h1 (.inl e), by omega, by omega, by omega, fun e => ?_⟩
      cases hm : m with
      | zero => rfl
      | succ q => exact absurd (.inr (.inr ⟨e, by omega⟩)) h1

set_option maxHeartbeats 2000000 in
set_option maxRecDepth 100000 in
theorem inners_main (k : List Nat) (S : Nat) (d : Bool) (u : ByteArray) (l : List Nat) (T : Nat) (e : Bool) (v : ByteArray) (hk : ∀ c ∈ k, c < 256) (hl : ∀ c ∈ l, c < 256)
    (ha : (strB k).size ≤ maxLen) (hu : u.size ≤ maxLen) (hb : (strB l).size ≤ maxLen) (hv : v.size ≤ maxLen) (w : World)
    (n1 : ¬ isBig (strB k) u) (n2 : ¬ isBig (strB l) v) (z1 : chk (strB k).size S d u.size = 0) (z2 : chk (strB l).size T e v.size = 0) :
    Calls Try.prog 4 #[ent (strB k) S d u, ent (strB l) T e v] w fun r w' => r = .returned (.bool true) ∧ Below w.heap.size w w' := by
  have h0 := At2.new (a := strB k) (S := S) (d := d) (u := u) (b := strB l) (T := T) (e := e) (v := v) w
  have bxn := Lib.hid (big_no (strB k) S d u ha hu n1)
  have byn := Lib.hid (big_no (strB l) T e v hb hv n2)
  have cx := Lib.hid (check_any (strB k) S d u ha hu)
  have cy := Lib.hid (check_any (strB l) T e v hb hv)
  rw [z1] at cx
  rw [z2] at cy
  have okx := Lib.hid (chk0 _ _ _ _ z1)
  have oky := Lib.hid (chk0 _ _ _ _ z2)
  rw [strB_size] at okx oky
  have hok : okE k S := ⟨fun e => okx.out.1 (by rw [e]; rfl), okx.out.2.1, by have := okx.out.2.2.1; omega⟩
  have HOK := Lib.hid hok
  have ix := Lib.hid (inner_any k hk (by have := okx.out.2.1; omega) S (by have := okx.out.2.2.1; omega) d u)
  have iy := Lib.hid (inner_any l hl (by have := oky.out.2.1; omega) T (by have := oky.out.2.2.1; omega) e v)
  have ox := Lib.hid (outer_yes k hk S d hok)
  have HLESS := Lib.hid (inner_less k S d l T e hk hl (by have := okx.out.2.2.1; omega) (by have := oky.out.2.2.1; omega))
  have CM := Lib.hid (fun w => cmp_any (strB k) S d u (strB l) T e v w)
  have hsz : (strB k).size = k.length := strB_size k
  have hlen : (k.length : Int) ≤ 128 := by have := okx.out.2.1; omega
  have hSI : (S : Int) ≤ 72057594037927935 := okx.out.2.2.1
  have HK := Lib.hid hk
  have hN := M.num2_lt S d (by omega)
  have HNM := Lib.hid (show M.num2 S d = 2 * S + (if d then 0 else 1) from rfl)
  clear ha hu hb hv n1 n2 z1 z2 hok hk hl okx oky
  unfold ent at *
  go_enter Try.func4, Try.ntmps4
  go_wp2_with fail
  refine (head_any _).mono ?_
  rintro q w1 ⟨rfl, hb1⟩
  have h1 := h0.below hb1
  clear h0 hb1
  obtain ⟨⟨p0, p1, p2, p3, _, _, _, _⟩, _, _⟩ := id h1
  go_wp2_with fail
  refine (bxn.out _).mono ?_
  rintro q w2 ⟨rfl, hb2⟩
  have h2 := h1.below hb2
  obtain ⟨_, ⟨y0, y1, y2, y3, _, _, _, _⟩, _⟩ := id h2
  go_wp2_with fail
  refine (byn.out _).mono ?_
  rintro q w3 ⟨rfl, hb3⟩
  have h3 := h2.below hb3
  clear p0 p1 p2 p3 y0 y1 y2 y3
  obtain ⟨⟨p0, p1, p2, p3, _, _, _, _⟩, _, _⟩ := id h3
  go_wp2_with fail
  refine (cx.out _).mono ?_
  rintro q w4 ⟨rfl, hb4⟩
  have h4 := h3.below hb4
  clear p0 p1 p2 p3
  obtain ⟨_, ⟨y0, y1, y2, y3, _, _, _, _⟩, _⟩ := id h4
  go_wp2_with fail
  refine (cy.out _).mono ?_
  rintro q w5 ⟨rfl, hb5⟩
  have h5 := h4.below hb5
  clear y0 y1 y2 y3 h1 h2 h3 h4 hb2 hb3 hb4 hb5
  obtain ⟨⟨p0, p1, p2, p3, _, _, _, _⟩, _, _⟩ := id h5
  go_wp2_with fail
  refine (ix.out _).mono ?_
  rintro q w6 ⟨rfl, hb6⟩
  have h6 := h5.below hb6
  clear p0 p1 p2 p3 h5 hb6
  obtain ⟨⟨p0, p1, p2, p3, _, _, _, _⟩, _, _⟩ := id h6
  generalize hI : M.inner k S d = I at *
  have HI := Lib.hid hI
  clear hI bxn byn cx cy ix
  go_upto_if 37 with fail
  generalize hNM : M.num2 S d = n2 at *
  go_cut [6] (fun t wx => t = .int .u64 (n2 : Int) ∧ w6 = wx)
  case first =>
    have := HNM.out
    cases d
    all_goals
      go_wp2
      go_meet
      exact ⟨congrArg (Value.int .u64) (by simp at this; omega), rfl⟩
  case rest =>
    obtain ⟨rfl, rfl⟩ := hcut
    go_wp2_with fail
    go_loop [7, 8] (fun s i => ∃ j : Nat, j ≤ k.length ∧ i = .int .i64 j ∧ s = .string (strB (M.esc (k.take j)))) (fun _ i => 400 - (intOf i).toNat)
    case atStart => exact ⟨0, by omega, rfl, rfl⟩
    case round =>
      obtain ⟨j, hj, rfl, rfl⟩ := hrel
      have HEL := Lib.hid (M.esc_len (k.take j))
      have HTL := Lib.hid (show (k.take j).length = min j k.length from List.length_take ..)
      have hw7 : (strB (M.esc (k.take j))).size ≤ 256 := by rw [strB_size]; have := HEL.out; have := HTL.out; omega
      by_cases hlt : j < k.length
      · have hlt' : (j : Int) < (k.length : Int) := by omega
        have hjs : j < (strB k).size := by rw [hsz]; exact hlt
        have hE := Lib.hid (M.esc_take k j hlt)
        have hcb := getD_lt HK.out j
        have hat := Lib.hid (strB_at k HK.out j hjs)
        have hex : (strB k).extract j (j + 1) = strB [k.getD j 0] := by
          rw [strB_extract, show j + 1 - j = 1 by omega, drop_cons k j hlt]; rfl
        obtain ⟨c, EC⟩ : ∃ c, Hid (k.getD j 0 = c) := ⟨_, Lib.hid rfl⟩
        rw [EC.out] at hcb hex
        have HEX := Lib.hid hex
        clear hex
        have hbyte : ((strB k)[j]'hjs).toNat = c := hat.out.trans EC.out
        generalize hq : strB (M.esc (k.take j)) = sq at *
        have HQ := Lib.hid hq
        clear hq
        by_cases hc0 : c = 0
        · subst hc0
          go_wp2
          go_round
          case rel =>
            refine ⟨j + 1, by omega, by go_num, congrArg Value.string ?_⟩
            rw [HEX.out, ← HQ.out, hE.out, EC.out, if_pos rfl]
            show strB (M.esc (k.take j)) ++ strB [0] ++ strB [255] = _
            rw [strB_app, strB_app, List.append_assoc]; rfl
          case measure => simp [intOf]; omega
        · have hc0' : ((c : Int) == 0) = false := by simp; omega
          go_wp2
          go_round
          case rel =>
            refine ⟨j + 1, by omega, by go_num, congrArg Value.string ?_⟩
            rw [HEX.out, ← HQ.out, hE.out, EC.out, if_neg hc0, strB_app]
          case measure => simp [intOf]; omega
      · have hje : j = k.length := by omega
        have hlt' : decide ((j : Int) < (k.length : Int)) = false := by simp; omega
        have hfull : k.take j = k := List.take_of_length_le (by omega)
        rw [hfull] at hw7 ⊢
        clear hfull HEL HTL
        have hst : strB (M.esc k) ++ ⟨#[0, 1]⟩ = strB (M.esc k ++ 0 :: 1 :: M.beP (M.turned n2) 8 0) := by
          show strB (M.esc k) ++ strB [0, 1] = _
          rw [strB_app]; rfl
        have HST := Lib.hid hst
        clear hst
        generalize hq : strB (M.esc k) = sq at *
        have HQ := Lib.hid hq
        clear hq
        go_wp2_with fail
        rw [HST.out]
        go_loopg [7, 9] 8 (fun m t i wr => ∃ q : Nat, m = 8 - q ∧ q ≤ 8 ∧ i = .int .i64 (7 - (q : Int)) ∧ t = .string (strB (M.esc k ++ 0 :: 1 :: M.beP (M.turned n2) 8 q)) ∧ At2 w wr (strB k) S d u (strB l) T e v)
        case atStart => exact ⟨0, rfl, by omega, rfl, rfl, h6⟩
        case round =>
          obtain ⟨q, hm, hq8, rfl, rfl, h7⟩ := hrel
          have HM := Lib.hid hm
          clear hm
          by_cases hq : q < 8
          · have hq' : (q : Int) < 8 := by omega
            have hsz7 : (strB (M.esc k ++ 0 :: 1 :: M.beP (M.turned n2) 8 q)).size ≤ 300 := by
              rw [strB_size]
              have := hw7
              rw [← HQ.out, strB_size] at this
              simp [M.beP_len]; omega
            have hB := Lib.hid (M.beP_succ (M.turned n2) 8 q)
            have hdig := turned_digit n2 (7 - q) (by omega) (by omega)
            have hdI : IntKind.u64.wrap (255 - ((n2 : Int) / 2 ^ (8 * (7 - q))).tmod 256) % 256 = ((M.turned n2 / 256 ^ (7 - q) % 256 : Nat) : Int) := by
              rw [hdig]
              have h1 : ((n2 / 256 ^ (7 - q) % 256 : Nat) : Int) = (n2 : Int) / 2 ^ (8 * (7 - q)) % 256 := (shr_byte n2 (7 - q)).symm
              have h2 : (0 : Int) ≤ (n2 : Int) / 2 ^ (8 * (7 - q)) := Int.ediv_nonneg (by omega) (Int.le_of_lt (Int.pow_pos (by decide)))
              rw [Int.tmod_eq_emod_of_nonneg h2, ← h1, IntKind.wrap_u64]
              omega
            have HDI := Lib.hid hdI
            clear hdI
            have hDlt : M.turned n2 / 256 ^ (7 - q) % 256 < 256 := Nat.mod_lt _ (by decide)
            obtain ⟨D, HD⟩ : ∃ D, Hid (M.turned n2 / 256 ^ (7 - q) % 256 = D) := ⟨_, Lib.hid rfl⟩
            rw [HD.out] at HDI hDlt
            have HB2 : Hid (M.beP (M.turned n2) 8 (q + 1) = M.beP (M.turned n2) 8 q ++ [D]) := by rw [← HD.out]; exact hB.out
            have hrl : Rd (wr.alloc (.cells #[.int .u8 (D : Int)] 5)) (wr.heap.size + 1) (some ⟨wr.heap.size, 0, none⟩) 1 (bys [D]) := Rd.lit wr #[.int .u8 (D : Int)] 5 1 rfl
            have hcv := Lib.hid (run_conv (P := Try.prog) 1 hrl 33 9 5 Try.underlying33 Try.underlying5 Try.underlying9)
            generalize hsq2 : strB (M.esc k ++ 0 :: 1 :: M.beP (M.turned n2) 8 q) = sr at *
            have HSR := Lib.hid hsq2
            clear hsq2 hdig hB hrl
            go_wp2_with fail
            rw [HDI.out, hcv.out]
            simp only [Result.andThen]
            rw [Oper.upon_value]
            have hD1 : (strB [D]).size = 1 := rfl
            go_wp2_with fail
            go_roundg (8 - (q + 1))
            case measure => have := HM.out; omega
            case rel =>
              refine ⟨q + 1, rfl, by omega, by go_num, congrArg Value.string ?_, h7.alloc _⟩
              rw [← HSR.out, strB_app, HB2.out]
              simp
          · obtain rfl : q = 8 := by omega
            have hdn : decide ((0 : Int) ≤ 7 - ((8 : Nat) : Int)) = false := by decide
            have hfin : M.esc k ++ 0 :: 1 :: M.beP (M.turned n2) 8 8 = I := by rw [← HI.out, M.inner, hNM]; rfl
            rw [hfin]
            clear hfin
            go_wp2_with fail
            refine (ox.out _).mono ?_
            rintro q w8 ⟨rfl, hb8⟩
            have h8 := h7.below hb8
            have h9 := h8.alloc (.cells #[.string (strB k), .int .u64 (S : Int), .bool d, .string ⟨#[]⟩] 24)
            have a9 := At4.new w8 (.string (strB k)) (.int .u64 (S : Int)) (.bool d) (.string ⟨#[]⟩) 24
            have hbe : Below w.heap.size w w8 := h8.bel
            clear h6 h7 h8 hb8 p0 p1 p2 p3
            obtain ⟨⟨p0, p1, p2, p3, _, _, _, _⟩, _, _⟩ := id h9
            obtain ⟨x0, x1, x2, x3, _, _, _, _⟩ := a9
            have hsI := strB_same I
            have hsk := strB_same k
            go_upto_region 24 with fail
            have h9c := h9.drew.cells
            clear p0 p1 p2 p3 x0 x1 x2 x3 hsk hsI
            obtain ⟨P, HP⟩ : ∃ P, Hid (cE (strB k) S (strB l) T = P) := ⟨_, Lib.hid rfl⟩
            rw [HP.out] at CM HLESS
            by_cases hP : P = 0
            · subst hP
              clear HLESS HP
              refine wp_region_noPanic ?_
              refine wp_region_held_drew (S := (fun w' => w'.cell? ⟨w.heap.size, 0, none⟩ = some (.string (strB k)) ∧ w'.cell? ⟨w.heap.size, 1, none⟩ = some (.int .u64 (S : Int)) ∧ w'.cell? ⟨w.heap.size, 2, none⟩ = some (.bool d) ∧ w'.cell? ⟨w.heap.size, 3, none⟩ = some (.string u) ∧ w'.cell? ⟨w.heap.size + 1, 0, none⟩ = some (.string (strB l)) ∧ w'.cell? ⟨w.heap.size + 1, 1, none⟩ = some (.int .u64 (T : Int)) ∧ w'.cell? ⟨w.heap.size + 1, 2, none⟩ = some (.bool e) ∧ w'.cell? ⟨w.heap.size + 1, 3, none⟩ = some (.string v) ∧ At2 w w' (strB k) S d u (strB l) T e v)) (by kernel_rfl) (h9c) (fun hHeld => ?_)
              refine wpAnyH_take (i := 0) (v := ?_) (by simp only [List.getElem?_toArray, List.getElem?_cons_succ, List.getElem?_cons_zero]; rfl) (by kernel_rfl) (by kernel_rfl) (by kernel_rfl) (fun _ _ _ h => h) (Or.inl ⟨by rfl, ?_⟩) (by assumption) ?_
              rotate_left
              · (intro w hSw; (try dsimp only at hSw); go_simp; (try with_reducible rfl))
              (try simp only [Act.put, List.setIfInBounds_toArray, List.set_cons_zero, List.set_cons_succ])
              refine wpAnyH_take (i := 1) (v := ?_) (by simp only [List.getElem?_toArray, List.getElem?_cons_succ, List.getElem?_cons_zero]; rfl) (by kernel_rfl) (by kernel_rfl) (by kernel_rfl) (fun _ _ _ h => h) (Or.inl ⟨by rfl, ?_⟩) (by assumption) ?_
              rotate_left
              · (intro w hSw; (try dsimp only at hSw); go_simp; (try with_reducible rfl))
              (try simp only [Act.put, List.setIfInBounds_toArray, List.set_cons_zero, List.set_cons_succ])
              refine wpAnyH_ready (rs := [2]) (by kernel_rfl) (by simp) ?_
              refine AllReadyH.cons (by simp only [List.getElem?_toArray, List.getElem?_cons_succ, List.getElem?_cons_zero]; rfl) (fun K hK => ?_) AllReadyH.nil
              go_simp
              refine (CM.out _).mono ?_
              rintro q w21 ⟨rfl, hb21⟩
              go_simp
              refine hK.out _ _ ?_ (fun hHeld => ?_)
              · exact At2.again hHeld hb21
              clear hK K
              (try simp only [Act.put, List.setIfInBounds_toArray, List.set_cons_zero, List.set_cons_succ])
              (try clear hb21)
              refine wpAnyH_take (i := 3) (v := .bool true) (by simp only [List.getElem?_toArray, List.getElem?_cons_succ, List.getElem?_cons_zero]; rfl) (by kernel_rfl) (by kernel_rfl) (by kernel_rfl) (fun _ _ _ h => h) (Or.inl ⟨by rfl, ?_⟩) (by assumption) ?_
              · (intro w hSw; (try dsimp only at hSw); go_simp; (try simp))
              (try simp only [Act.put, List.setIfInBounds_toArray, List.set_cons_zero, List.set_cons_succ])
              refine wpAnyH_take (i := 4) (v := ?_) (by simp only [List.getElem?_toArray, List.getElem?_cons_succ, List.getElem?_cons_zero]; rfl) (by kernel_rfl) (by kernel_rfl) (by kernel_rfl) (fun _ _ _ h => h) (Or.inl ⟨by rfl, ?_⟩) (by assumption) ?_
              rotate_left
              · (intro w hSw; (try dsimp only at hSw); go_simp; (try with_reducible rfl))
              (try simp only [Act.put, List.setIfInBounds_toArray, List.set_cons_zero, List.set_cons_succ])
              refine wpAnyH_take (i := 5) (v := undef) (by simp only [List.getElem?_toArray, List.getElem?_cons_succ, List.getElem?_cons_zero]; rfl) (by kernel_rfl) (by kernel_rfl) (by kernel_rfl) (fun _ _ _ h => h) (Or.inr ⟨by rfl, rfl⟩) (by assumption) ?_
              (try simp only [Act.put, List.setIfInBounds_toArray, List.set_cons_zero, List.set_cons_succ])
              refine wpAnyH_take (i := 6) (v := undef) (by simp only [List.getElem?_toArray, List.getElem?_cons_succ, List.getElem?_cons_zero]; rfl) (by kernel_rfl) (by kernel_rfl) (by kernel_rfl) (fun _ _ _ h => h) (Or.inr ⟨by rfl, rfl⟩) (by assumption) ?_
              (try simp only [Act.put, List.setIfInBounds_toArray, List.set_cons_zero, List.set_cons_succ])
              refine wpAnyH_take (i := 7) (v := undef) (by simp only [List.getElem?_toArray, List.getElem?_cons_succ, List.getElem?_cons_zero]; rfl) (by kernel_rfl) (by kernel_rfl) (by kernel_rfl) (fun _ _ _ h => h) (Or.inr ⟨by rfl, rfl⟩) (by assumption) ?_
              (try simp only [Act.put, List.setIfInBounds_toArray, List.set_cons_zero, List.set_cons_succ])
              refine wpAnyH_take (i := 8) (v := undef) (by simp only [List.getElem?_toArray, List.getElem?_cons_succ, List.getElem?_cons_zero]; rfl) (by kernel_rfl) (by kernel_rfl) (by kernel_rfl) (fun _ _ _ h => h) (Or.inr ⟨by rfl, rfl⟩) (by assumption) ?_
              (try simp only [Act.put, List.setIfInBounds_toArray, List.set_cons_zero, List.set_cons_succ])
              refine wpAnyH_take (i := 9) (v := undef) (by simp only [List.getElem?_toArray, List.getElem?_cons_succ, List.getElem?_cons_zero]; rfl) (by kernel_rfl) (by kernel_rfl) (by kernel_rfl) (fun _ _ _ h => h) (Or.inr ⟨by rfl, rfl⟩) (by assumption) ?_
              (try simp only [Act.put, List.setIfInBounds_toArray, List.set_cons_zero, List.set_cons_succ])
              refine wpAnyH_take (i := 10) (v := undef) (by simp only [List.getElem?_toArray, List.getElem?_cons_succ, List.getElem?_cons_zero]; rfl) (by kernel_rfl) (by kernel_rfl) (by kernel_rfl) (fun _ _ _ h => h) (Or.inr ⟨by rfl, rfl⟩) (by assumption) ?_
              (try simp only [Act.put, List.setIfInBounds_toArray, List.set_cons_zero, List.set_cons_succ])
              refine wpAnyH_take (i := 11) (v := undef) (by simp only [List.getElem?_toArray, List.getElem?_cons_succ, List.getElem?_cons_zero]; rfl) (by kernel_rfl) (by kernel_rfl) (by kernel_rfl) (fun _ _ _ h => h) (Or.inr ⟨by rfl, rfl⟩) (by assumption) ?_
              (try simp only [Act.put, List.setIfInBounds_toArray, List.set_cons_zero, List.set_cons_succ])
              refine wpAnyH_take (i := 12) (v := undef) (by simp only [List.getElem?_toArray, List.getElem?_cons_succ, List.getElem?_cons_zero]; rfl) (by kernel_rfl) (by kernel_rfl) (by kernel_rfl) (fun _ _ _ h => h) (Or.inr ⟨by rfl, rfl⟩) (by assumption) ?_
              (try simp only [Act.put, List.setIfInBounds_toArray, List.set_cons_zero, List.set_cons_succ])
              refine wpAnyH_take (i := 13) (v := undef) (by simp only [List.getElem?_toArray, List.getElem?_cons_succ, List.getElem?_cons_zero]; rfl) (by kernel_rfl) (by kernel_rfl) (by kernel_rfl) (fun _ _ _ h => h) (Or.inr ⟨by rfl, rfl⟩) (by assumption) ?_
              (try simp only [Act.put, List.setIfInBounds_toArray, List.set_cons_zero, List.set_cons_succ])
              refine wpAnyH_take (i := 14) (v := ?_) (by simp only [List.getElem?_toArray, List.getElem?_cons_succ, List.getElem?_cons_zero]; rfl) (by kernel_rfl) (by kernel_rfl) (by kernel_rfl) (fun _ _ _ h => h) (Or.inl ⟨by rfl, ?_⟩) (by assumption) ?_
              rotate_left
              · (intro w hSw; (try dsimp only at hSw); go_simp; (try with_reducible rfl))
              (try simp only [Act.put, List.setIfInBounds_toArray, List.set_cons_zero, List.set_cons_succ])
              refine wpAnyH_take (i := 15) (v := ?_) (by simp only [List.getElem?_toArray, List.getElem?_cons_succ, List.getElem?_cons_zero]; rfl) (by kernel_rfl) (by kernel_rfl) (by kernel_rfl) (fun _ _ _ h => h) (Or.inl ⟨by rfl, ?_⟩) (by assumption) ?_
              rotate_left
              · (intro w hSw; (try dsimp only at hSw); go_simp; (try with_reducible rfl))
              (try simp only [Act.put, List.setIfInBounds_toArray, List.set_cons_zero, List.set_cons_succ])
              refine wpAnyH_done (by kernel_rfl) ?_ _
              refine NoPanic.normal ?_
              go_wp2_with fail
              go_ret
              exact ⟨rfl, hHeld.2.2.2.2.2.2.2.2.bel⟩
            · have HP0 : Hid ((P == 0) = false) := Lib.hid (by simpa using hP)
              obtain ⟨L, HPL⟩ : ∃ L, Hid (decide (P < 0) = L) := ⟨_, Lib.hid rfl⟩
              have HLS : Hid (Op.bytesLess (strB I).toList (strB (M.inner l T e)).toList = L) := by rw [← HPL.out]; exact Lib.hid (HLESS.out hP)
              clear HLESS HP hP
              refine wp_region_noPanic ?_
              refine wp_region_held_drew (S := (fun w' => w'.cell? ⟨w.heap.size, 0, none⟩ = some (.string (strB k)) ∧ w'.cell? ⟨w.heap.size, 1, none⟩ = some (.int .u64 (S : Int)) ∧ w'.cell? ⟨w.heap.size, 2, none⟩ = some (.bool d) ∧ w'.cell? ⟨w.heap.size, 3, none⟩ = some (.string u) ∧ w'.cell? ⟨w.heap.size + 1, 0, none⟩ = some (.string (strB l)) ∧ w'.cell? ⟨w.heap.size + 1, 1, none⟩ = some (.int .u64 (T : Int)) ∧ w'.cell? ⟨w.heap.size + 1, 2, none⟩ = some (.bool e) ∧ w'.cell? ⟨w.heap.size + 1, 3, none⟩ = some (.string v) ∧ At2 w w' (strB k) S d u (strB l) T e v)) (by kernel_rfl) (h9c) (fun hHeld => ?_)
              refine wpAnyH_take (i := 0) (v := ?_) (by simp only [List.getElem?_toArray, List.getElem?_cons_succ, List.getElem?_cons_zero]; rfl) (by kernel_rfl) (by kernel_rfl) (by kernel_rfl) (fun _ _ _ h => h) (Or.inl ⟨by rfl, ?_⟩) (by assumption) ?_
              rotate_left
              · (intro w hSw; (try dsimp only at hSw); go_simp; (try with_reducible rfl))
              (try simp only [Act.put, List.setIfInBounds_toArray, List.set_cons_zero, List.set_cons_succ])
              refine wpAnyH_take (i := 1) (v := ?_) (by simp only [List.getElem?_toArray, List.getElem?_cons_succ, List.getElem?_cons_zero]; rfl) (by kernel_rfl) (by kernel_rfl) (by kernel_rfl) (fun _ _ _ h => h) (Or.inl ⟨by rfl, ?_⟩) (by assumption) ?_
              rotate_left
              · (intro w hSw; (try dsimp only at hSw); go_simp; (try with_reducible rfl))
              (try simp only [Act.put, List.setIfInBounds_toArray, List.set_cons_zero, List.set_cons_succ])
              refine wpAnyH_ready (rs := [2]) (by kernel_rfl) (by simp) ?_
              refine AllReadyH.cons (by simp only [List.getElem?_toArray, List.getElem?_cons_succ, List.getElem?_cons_zero]; rfl) (fun K hK => ?_) AllReadyH.nil
              go_simp
              refine (CM.out _).mono ?_
              rintro q w21 ⟨rfl, hb21⟩
              go_simp
              refine hK.out _ _ ?_ (fun hHeld => ?_)
              · exact At2.again hHeld hb21
              clear hK K
              (try simp only [Act.put, List.setIfInBounds_toArray, List.set_cons_zero, List.set_cons_succ])
              (try clear hb21)
              refine wpAnyH_take (i := 3) (v := .bool false) (by simp only [List.getElem?_toArray, List.getElem?_cons_succ, List.getElem?_cons_zero]; rfl) (by kernel_rfl) (by kernel_rfl) (by kernel_rfl) (fun _ _ _ h => h) (Or.inl ⟨by rfl, ?_⟩) (by assumption) ?_
              · (intro w hSw; (try dsimp only at hSw); go_simp; first | exact HP0.out | exact beq_eq_false_iff_ne.1 HP0.out)
              (try simp only [Act.put, List.setIfInBounds_toArray, List.set_cons_zero, List.set_cons_succ])
              refine wpAnyH_take (i := 4) (v := ?_) (by simp only [List.getElem?_toArray, List.getElem?_cons_succ, List.getElem?_cons_zero]; rfl) (by kernel_rfl) (by kernel_rfl) (by kernel_rfl) (fun _ _ _ h => h) (Or.inl ⟨by rfl, ?_⟩) (by assumption) ?_
              rotate_left
              · (intro w hSw; (try dsimp only at hSw); go_simp; (try with_reducible rfl))
              (try simp only [Act.put, List.setIfInBounds_toArray, List.set_cons_zero, List.set_cons_succ])
              refine wpAnyH_take (i := 5) (v := ?_) (by simp only [List.getElem?_toArray, List.getElem?_cons_succ, List.getElem?_cons_zero]; rfl) (by kernel_rfl) (by kernel_rfl) (by kernel_rfl) (fun _ _ _ h => h) (Or.inl ⟨by rfl, ?_⟩) (by assumption) ?_
              rotate_left
              · (intro w hSw; (try dsimp only at hSw); go_simp; (try with_reducible rfl))
              (try simp only [Act.put, List.setIfInBounds_toArray, List.set_cons_zero, List.set_cons_succ])
              refine wpAnyH_take (i := 6) (v := ?_) (by simp only [List.getElem?_toArray, List.getElem?_cons_succ, List.getElem?_cons_zero]; rfl) (by kernel_rfl) (by kernel_rfl) (by kernel_rfl) (fun _ _ _ h => h) (Or.inl ⟨by rfl, ?_⟩) (by assumption) ?_
              rotate_left
              · (intro w hSw; (try dsimp only at hSw); go_simp; (try with_reducible rfl))
              (try simp only [Act.put, List.setIfInBounds_toArray, List.set_cons_zero, List.set_cons_succ])
              refine wpAnyH_take (i := 9) (v := ?_) (by simp only [List.getElem?_toArray, List.getElem?_cons_succ, List.getElem?_cons_zero]; rfl) (by kernel_rfl) (by kernel_rfl) (by kernel_rfl) (fun _ _ _ h => h) (Or.inl ⟨by rfl, ?_⟩) (by assumption) ?_
              rotate_left
              · (intro w hSw; (try dsimp only at hSw); go_simp; (try with_reducible rfl))
              (try simp only [Act.put, List.setIfInBounds_toArray, List.set_cons_zero, List.set_cons_succ])
              refine wpAnyH_take (i := 10) (v := ?_) (by simp only [List.getElem?_toArray, List.getElem?_cons_succ, List.getElem?_cons_zero]; rfl) (by kernel_rfl) (by kernel_rfl) (by kernel_rfl) (fun _ _ _ h => h) (Or.inl ⟨by rfl, ?_⟩) (by assumption) ?_
              rotate_left
              · (intro w hSw; (try dsimp only at hSw); go_simp; (try with_reducible rfl))
              (try simp only [Act.put, List.setIfInBounds_toArray, List.set_cons_zero, List.set_cons_succ])
              refine wpAnyH_ready (rs := [7]) (by kernel_rfl) (by simp) ?_
              refine AllReadyH.cons (by simp only [List.getElem?_toArray, List.getElem?_cons_succ, List.getElem?_cons_zero]; rfl) (fun K hK => ?_) AllReadyH.nil
              go_simp
              refine (CM.out _).mono ?_
              rintro q w22 ⟨rfl, hb22⟩
              go_simp
              refine hK.out _ _ ?_ (fun hHeld => ?_)
              · exact At2.again hHeld hb22
              clear hK K
              (try simp only [Act.put, List.setIfInBounds_toArray, List.set_cons_zero, List.set_cons_succ])
              (try clear hb22)
              refine wpAnyH_take (i := 8) (v := .bool L) (by simp only [List.getElem?_toArray, List.getElem?_cons_succ, List.getElem?_cons_zero]; rfl) (by kernel_rfl) (by kernel_rfl) (by kernel_rfl) (fun _ _ _ h => h) (Or.inl ⟨by rfl, ?_⟩) (by assumption) ?_
              · (intro w hSw; (try dsimp only at hSw); go_simp; first | exact HPL.out | exact congrArg Value.bool HPL.out)
              (try simp only [Act.put, List.setIfInBounds_toArray, List.set_cons_zero, List.set_cons_succ])
              refine wpAnyH_ready (rs := [11]) (by kernel_rfl) (by simp) ?_
              refine AllReadyH.cons (by simp only [List.getElem?_toArray, List.getElem?_cons_succ, List.getElem?_cons_zero]; rfl) (fun K hK => ?_) AllReadyH.nil
              go_simp
              refine (iy.out _).mono ?_
              rintro q w23 ⟨rfl, hb23⟩
              go_simp
              refine hK.out _ _ ?_ (fun hHeld => ?_)
              · exact At2.again hHeld hb23
              clear hK K
              (try simp only [Act.put, List.setIfInBounds_toArray, List.set_cons_zero, List.set_cons_succ])
              (try clear hb23)
              refine wpAnyH_take (i := 12) (v := .bool L) (by simp only [List.getElem?_toArray, List.getElem?_cons_succ, List.getElem?_cons_zero]; rfl) (by kernel_rfl) (by kernel_rfl) (by kernel_rfl) (fun _ _ _ h => h) (Or.inl ⟨by rfl, ?_⟩) (by assumption) ?_
              · (intro w hSw; (try dsimp only at hSw); go_simp; first | exact HLS.out | exact congrArg Value.bool HLS.out)
              (try simp only [Act.put, List.setIfInBounds_toArray, List.set_cons_zero, List.set_cons_succ])
              refine wpAnyH_take (i := 13) (v := .bool true) (by simp only [List.getElem?_toArray, List.getElem?_cons_succ, List.getElem?_cons_zero]; rfl) (by kernel_rfl) (by kernel_rfl) (by kernel_rfl) (fun _ _ _ h => h) (Or.inl ⟨by rfl, ?_⟩) (by assumption) ?_
              · (intro w hSw; (try dsimp only at hSw); go_simp; (try simp))
              (try simp only [Act.put, List.setIfInBounds_toArray, List.set_cons_zero, List.set_cons_succ])
              refine wpAnyH_take (i := 14) (v := ?_) (by simp only [List.getElem?_toArray, List.getElem?_cons_succ, List.getElem?_cons_zero]; rfl) (by kernel_rfl) (by kernel_rfl) (by kernel_rfl) (fun _ _ _ h => h) (Or.inl ⟨by rfl, ?_⟩) (by assumption) ?_
              rotate_left
              · (intro w hSw; (try dsimp only at hSw); go_simp; (try with_reducible rfl))
              (try simp only [Act.put, List.setIfInBounds_toArray, List.set_cons_zero, List.set_cons_succ])
              refine wpAnyH_take (i := 15) (v := ?_) (by simp only [List.getElem?_toArray, List.getElem?_cons_succ, List.getElem?_cons_zero]; rfl) (by kernel_rfl) (by kernel_rfl) (by kernel_rfl) (fun _ _ _ h => h) (Or.inl ⟨by rfl, ?_⟩) (by assumption) ?_
              rotate_left
              · (intro w hSw; (try dsimp only at hSw); go_simp; (try with_reducible rfl))
              (try simp only [Act.put, List.setIfInBounds_toArray, List.set_cons_zero, List.set_cons_succ])
              refine wpAnyH_done (by kernel_rfl) ?_ _
              refine NoPanic.normal ?_
              go_wp2_with fail
              go_ret
              exact ⟨rfl, hHeld.2.2.2.2.2.2.2.2.bel⟩
end Go.Proofs.Ytahbhaphodgomac
