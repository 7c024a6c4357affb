/- The walk of KeyPuts, whole. -/
import Derived.Test.YtahbhaphodgomacPutsW
import Derived.Test.YtahbhaphodgomacChkW
namespace Go.Proofs.Ytahbhaphodgomac
set_option linter.unusedSimpArgs false
set_option linter.unusedVariables false
open Go.RowKit

def cat (xs : List Ent) : List Nat := xs.flatMap Ent.bytes
theorem cat_app (a b : List Ent) : cat (a ++ b) = cat a ++ cat b := by simp [cat]
theorem cat_cons (x : Ent) (b : List Ent) : cat (x :: b) = x.bytes ++ cat b := by simp [cat]

set_option maxHeartbeats 1000000 in
theorem puts_long (A : Option Addr) (n c : Nat) (B : Option Addr) (m d : Nat) (w : World) (h : (8 : Int) < (n : Int) ∨ (300 : Int) < (m : Int)) :
    Calls Try.prog 6 #[.slice A n c, .slice B m d] w fun e w' => e = .returned (.bool true) ∧ Below w.heap.size w w' := by
  by_cases h8 : (8 : Int) < (n : Int)
  · go_enter Try.func6, Try.ntmps6
    go_wp2_with fail
    refine (head_any _).mono ?_
    rintro e w1 ⟨rfl, hb1⟩
    go_wp2_with fail
    go_ret
    exact ⟨rfl, hb1⟩
  · have h8' : decide ((8 : Int) < (n : Int)) = false := by simp; omega
    have h3 : (300 : Int) < (m : Int) := by omega
    go_enter Try.func6, Try.ntmps6
    go_wp2_with fail
    refine (head_any _).mono ?_
    rintro e w1 ⟨rfl, hb1⟩
    go_wp2_with fail
    go_ret
    exact ⟨rfl, hb1⟩

theorem right_len (x : Ent) (hr : x.right) : x.bytes.length ≤ 80000 ∧ okE x.k x.S ∧ x.k.length ≤ 1000 ∧ x.u.length ≤ 100000 := by
  have h := chk0 _ _ _ _ hr.2
  rw [strB_size, strB_size] at h
  have hok : okE x.k x.S := ⟨fun e => h.1 (by rw [e]; rfl), h.2.1, by have := h.2.2.1; omega⟩
  have hil := M.inner_len x.k x.S x.d
  have hel := M.esc_len x.k
  have s1 := M.sz_le (M.inner x.k x.S x.d).length (by omega)
  have s2 := M.sz_le x.u.length (by omega)
  refine ⟨?_, hok, by omega, by omega⟩
  show (entB x.k x.S x.d x.u).length ≤ _
  simp only [entB, List.length_append, txtB_len]
  omega

set_option maxHeartbeats 2000000 in
set_option maxRecDepth 100000 in
theorem puts_walk (A : Option Addr) (n c : Nat) (B : Option Addr) (m d : Nat) (xs : List Ent) (bs : List Nat) (w : World) (hx : RdE w w.heap.size A n xs) (hg : ∀ x ∈ xs, x.good) (hr : Rd w w.heap.size B m (bys bs)) (hb : ∀ c ∈ bs, c < 256)
    (hn : (n : Int) ≤ 8) (hm : (m : Int) ≤ 300) :
    Calls Try.prog 6 #[.slice A n c, .slice B m d] w fun e w' => e = .returned (.bool true) ∧ Below w.heap.size w w' := by
  obtain ⟨i0, hi, hz0, hz1, hz2⟩ := info_parts Try.info5
  have h8' : decide ((8 : Int) < (n : Int)) = false := by simp; omega
  have h3' : decide ((300 : Int) < (m : Int)) = false := by simp; omega
  have HG := Lib.hid hg
  have HB := Lib.hid hb
  have HXL := Lib.hid hx.1
  have HXX := Lib.hid hx
  clear hg hb
  go_enter Try.func6, Try.ntmps6
  go_wp2_with fail
  refine (head_any _).mono ?_
  rintro e w1 ⟨rfl, hb1⟩
  have hs1 := hb1.size
  have hb0 := Buf.new w1 w1.heap.size 5 #[] (0, 0) (Nat.le_refl _) (by unfold maxLen; simp)
  have hba : Below w1.heap.size w1 (w1.alloc (.cells #[] 5)) := (Below.refl _ _).alloc (Nat.le_refl _) _
  go_wp2_with fail
  go_loopg [5, 27] n (fun q b i wr => ∃ j : Nat, q = n - j ∧ j ≤ n ∧ i = .int .i64 (j : Int) ∧ Below w1.heap.size w1 wr ∧ Hid (∀ x ∈ xs.take j, x.right) ∧ Buf wr w1.heap.size b (cat (xs.take j)).length (bys (cat (xs.take j))) ∧ (cat (xs.take j)).length ≤ 80000 * j)
  case atStart => exact ⟨0, rfl, by omega, rfl, hba, Lib.hid (by simp), by simpa [cat, bys] using hb0, by simp [cat]⟩
  case round =>
    obtain ⟨j, hq, hj, rfl, hbw, HR, hbuf, hlen⟩ := hrel
    have HQ := Lib.hid hq
    clear hq
    have hbww := hb1.trans (hbw.mono hs1)
    by_cases hlt : j < n
    · have hlt' : (j : Int) < (n : Int) := by omega
      have hxw := hx.below hbww
      obtain ⟨g, off, rfl, hgB, hcell⟩ := hxw.2 (by omega)
      have hjl : j < xs.length := by rw [HXL.out]; exact hlt
      obtain ⟨c0, c1, c2, c3⟩ := hcell j _ (List.getElem?_eq_getElem hjl)
      have HX := Lib.hid (HG.out _ (List.getElem_mem hjl))
      have HTK := Lib.hid (show xs.take (j + 1) = xs.take j ++ [xs[j]] from List.take_succ_eq_append_getElem hjl)
      generalize xs[j] = x at *
      obtain ⟨k, S, dd, u⟩ := x
      simp only [] at c0 c1 c2 c3
      have hgl := HX.out
      have mk : (strB k).size ≤ maxLen := by rw [strB_size]; exact hgl.2.2.1
      have mu : (strB u).size ≤ maxLen := by rw [strB_size]; exact hgl.2.2.2.1
      have a1 := At4.new wr (.string (strB k)) (.int .u64 (S : Int)) (.bool dd) (.string (strB u)) 24
      have hsz : w1.heap.size ≤ wr.heap.size := hbw.size
      have hbw2 := hbw.alloc hsz (.cells #[.string (strB k), .int .u64 (S : Int), .bool dd, .string (strB u)] 24)
      have hbuf2 := hbuf.alloc (.cells #[.string (strB k), .int .u64 (S : Int), .bool dd, .string (strB u)] 24)
      have hgr : g < wr.heap.size := by omega
      clear hcell
      by_cases hbig : isBig (strB k) (strB u)
      · have HBG := Lib.hid (big_yes (strB k) S dd (strB u) mk mu hbig)
        unfold ent at HBG
        go_wp2_with fail
        refine (HBG.out _).mono ?_
        rintro e w3 ⟨rfl, hb3⟩
        have hB3 := hbw2.trans (hb3.mono hbw2.size)
        go_wp2_with fail
        go_ret
        exact ⟨rfl, hb1.trans (hB3.mono hs1)⟩
      · have HBG := Lib.hid (big_no (strB k) S dd (strB u) mk mu hbig)
        have HCK := Lib.hid (check_any (strB k) S dd (strB u) mk mu)
        obtain ⟨z, HZ⟩ : ∃ z, Hid (chk (strB k).size S dd (strB u).size = z) := ⟨_, Lib.hid rfl⟩
        rw [HZ.out] at HCK
        unfold ent at HBG HCK
        go_wp2_with fail
        refine (HBG.out _).mono ?_
        rintro e w3 ⟨rfl, hb3⟩
        have hB3 := hbw2.trans (hb3.mono hbw2.size)
        have a3 := a1.below hb3 a1.lt
        have hbuf3 := hbuf2.below hb3 (fun q hq => (hbuf2.lt q hq).2)
        clear a1 hb3 hbw2 hbuf2
        obtain ⟨p0, p1, p2, p3, _, _, _, _⟩ := id a3
        go_wp2_with fail
        refine (HCK.out _).mono ?_
        rintro e w4 ⟨rfl, hb4⟩
        have hB4 := hB3.trans (hb4.mono hB3.size)
        have a4 := a3.below hb4 a3.lt
        have hbuf4 := hbuf3.below hb4 (fun q hq => (hbuf3.lt q hq).2)
        clear p0 p1 p2 p3 a3 hb4 hB3 hbuf3
        by_cases hz : z = 0
        · subst hz
          have hrt : Ent.right ⟨k, S, dd, u⟩ := ⟨hbig, HZ.out⟩
          have hrl := right_len _ hrt
          obtain ⟨p0, p1, p2, p3, _, _, _, _⟩ := id a4
          have hEL := hrl.1
          have HP := Lib.hid (entPut_any k hgl.1 S dd u hgl.2.1 hrl.2.2.1 hrl.2.2.2 hrl.2.1.2.2 w4 w1.heap.size hbuf4 (by omega) hB4.size)
          unfold ent at HP
          go_wp2_with fail
          refine HP.out.mono ?_
          rintro e w5 ⟨v5, rfl, hl5⟩
          have hB5 := hB4.trans (hl5.below hbuf4 hB4.size)
          go_wp2_with fail
          go_roundg (n - (j + 1))
          case measure => have := HQ.out; omega
          case rel =>
            have hcat : cat (xs.take (j + 1)) = cat (xs.take j) ++ entB k S dd u := by rw [HTK.out, cat_app, cat_cons]; simp [cat, Ent.bytes]
            refine ⟨j + 1, rfl, by omega, by go_num, hB5, Lib.hid ?_, ?_, ?_⟩
            · rw [HTK.out]
              intro x hx'
              simp only [List.mem_append, List.mem_singleton] at hx'
              rcases hx' with hx' | rfl
              · exact HR.out x hx'
              · exact hrt
            · rw [hcat, bys_app, List.length_append]; exact hl5.buf
            · rw [hcat, List.length_append]
              have : (entB k S dd u).length ≤ 80000 := hEL
              omega
        · have hzn : (z != 0) = true := by simpa using hz
          go_wp2_with fail
          go_ret
          exact ⟨rfl, hb1.trans (hB4.mono hs1)⟩
    · have hlt' : decide ((j : Int) < (n : Int)) = false := by simp; omega
      obtain rfl : n = j := by omega
      have htk : xs.take n = xs := List.take_of_length_le (by rw [HXL.out]; exact Nat.le_refl _)
      rw [htk] at HR hbuf hlen
      have hbsl : bs.length = m := by have := hr.1; rwa [bys_len] at this
      have hrm := hr.below hbww
      obtain ⟨Ab, cb, rfl, hcb, hrb⟩ := hbuf.slice
      have hn0 := Buf.new wr wr.heap.size 5 #[] (0, 0) (Nat.le_refl _) (by unfold maxLen; simp)
      have hba2 : Below wr.heap.size wr (wr.alloc (.cells #[] 5)) := (Below.refl _ _).alloc (Nat.le_refl _) _
      have hrb2 := hrb.below hba2
      clear hx
      go_wp2_with (at_builtin; refine wpList_append_buf _ rfl (.tmp 42) (.tmp 43) 33 rfl wr.heap.size 5 i0 (.int .u8 0) 1 Try.underlying33 hi hz0 hz1 hz2 rfl rfl hn0 rfl hrb2 (bys_one _) ?b1 ?b2 (by simp) ?next)
      case b1 => unfold maxLen; first | omega | (simp; omega)
      case b2 => first | omega | (simp; omega)
      case next =>
        intro v2 w2 r1 r2 r3
        have r1' : Buf w2 wr.heap.size v2 (cat xs).length (bys (cat xs)) := by simpa using r1
        have hB2 : Below wr.heap.size wr w2 := hba2.grown r2 (by simp) (fun q hq => by simp [Value.ownBlock] at hq; omega)
        have hs2 := hB2.size
        have hB2w := hbww.trans (hB2.mono hbww.size)
        have hrm2 := hr.below hB2w
        clear r1 r2 r3 hn0 hba2 hrb2
        go_wp2_with (at_builtin; refine wpList_append_buf _ rfl (.tmp 44) (.tmp 45) 33 rfl wr.heap.size 5 i0 (.int .u8 0) 1 Try.underlying33 hi hz0 hz1 hz2 rfl rfl r1' rfl hrm2 (bys_one _) ?b4 ?b5 hs2 ?next2)
        case b4 => unfold maxLen; omega
        case b5 => omega
        case next2 =>
          intro v3 w3 s1 s2 s3
          have hB3 : Below wr.heap.size wr w3 := hB2.grown s2 hs2 (fun q hq => (r1'.lt q hq).1)
          have hB3w := hbww.trans (hB3.mono hbww.size)
          obtain ⟨A3, c3, rfl, hc3, hr3⟩ := s1.slice
          have hcm3 := s1.cap_le
          rw [← bys_app] at hr3
          have hs3 := hB3.size
          clear s1 s2 s3 r1' hB2 hB2w hrm2 hrm hrb hbuf
          go_wp2_with fail
          go_loopg [8, 49] n (fun q r i wx => ∃ j : Nat, q = n - j ∧ j ≤ n ∧ i = .int .i64 (j : Int) ∧ Below w.heap.size w wx ∧ w3.heap.size ≤ wx.heap.size ∧ ∃ Ar nr cr, r = .slice Ar nr cr ∧ Rd wx w3.heap.size Ar nr (bys (cat (xs.drop j) ++ bs)) ∧ nr ≤ cr ∧ cr ≤ maxLen)
          case atStart => exact ⟨0, rfl, by omega, rfl, hB3w, Nat.le_refl _, A3, _, c3, rfl, by simpa using hr3, hc3, hcm3⟩
          case round =>
            obtain ⟨j, hq, hj, rfl, hbx, hsx, Ar, nr, cr, rfl, hrr, hcr, hcmr⟩ := hrel
            have HQ2 := Lib.hid hq
            clear hq
            by_cases hlt2 : j < n
            · have hlt2' : (j : Int) < (n : Int) := by omega
              have hxw := HXX.out.below hbx
              obtain ⟨g, off, rfl, hgB, hcell⟩ := hxw.2 (by omega)
              have hjl : j < xs.length := by rw [HXL.out]; exact hlt2
              obtain ⟨c0, c1, c2, c3'⟩ := hcell j _ (List.getElem?_eq_getElem hjl)
              have HX := Lib.hid (HG.out _ (List.getElem_mem hjl))
              have hrt := HR.out _ (List.getElem_mem hjl)
              have hdc : xs.drop j = xs[j] :: xs.drop (j + 1) := List.drop_eq_getElem_cons hjl
              have hlenj : (cat (xs.drop j)).length ≤ (cat xs).length := by
                have := congrArg (fun l => (cat l).length) (List.take_append_drop j xs)
                simp only [cat_app, List.length_append] at this
                omega
              rw [hdc, cat_cons] at hrr hlenj
              have hml : ∀ c ∈ cat (xs.drop (j + 1)) ++ bs, c < 256 := by
                intro c hc
                simp only [List.mem_append] at hc
                rcases hc with hc | hc
                · simp only [cat, List.mem_flatMap] at hc
                  obtain ⟨x, hx1, hx2⟩ := hc
                  have hgx := HG.out x (List.mem_of_mem_drop hx1)
                  exact entB_lt _ _ _ _ hgx.1 hgx.2.1 c hx2
                · exact HB.out c hc
              generalize xs[j] = x at *
              obtain ⟨k, S, dd, u⟩ := x
              simp only [Ent.bytes] at c0 c1 c2 c3' hrr hlenj
              have hgl := HX.out
              have hrl := right_len _ hrt
              rw [List.append_assoc] at hrr
              have hrlen := hrr.1
              rw [bys_len, List.length_append] at hrlen
              rw [List.length_append] at hlenj
              have a1 := At4.new wr (.string (strB k)) (.int .u64 (S : Int)) (.bool dd) (.string (strB u)) 24
              have hrr1 := hrr.alloc hsx (.cells #[.string (strB k), .int .u64 (S : Int), .bool dd, .string (strB u)] 24)
              have hbx1 := hbx.alloc hbx.size (.cells #[.string (strB k), .int .u64 (S : Int), .bool dd, .string (strB u)] 24)
              have HGT := Lib.hid (get_ent k S dd u (cat (xs.drop (j + 1)) ++ bs) hgl.1 hgl.2.1 hml hrl.2.1 hrt.2 (by rw [List.length_append]; rw [List.length_append] at hrlen ⊢; omega) Ar nr cr _ w3.heap.size (by simp; omega) hrr1 hcr hcmr)
              have hEl : (entB k S dd u).length ≤ nr := by omega
              have hrd := hrr.drop (entB k S dd u).length cr hEl hcr
              rw [← bys_drop, List.drop_left' rfl] at hrd
              have hsl := fun wz => run_slice_l (P := Try.prog) wz 33 5 i0 Try.underlying33 hi hz1 Ar nr cr (entB k S dd u).length hEl .i64 ((entB k S dd u).length : Int) rfl
              have hgr : g < wr.heap.size := by have := hbx.size; omega
              have hs1 : (wr.alloc (.cells #[.string (strB k), .int .u64 (S : Int), .bool dd, .string (strB u)] 24)).heap.size = wr.heap.size + 1 := by simp
              unfold ent at HGT
              clear hcell hrlen hlenj hrr hrr1
              generalize (entB k S dd u).length = EL at *
              generalize hAd : (if cr = EL then Ar else Ar.map (·.add EL)) = Ad at *
              clear hAd
              go_wp2_with fail
              refine HGT.out.mono ?_
              rintro e w5 ⟨rfl, hb5⟩
              have a5 := a1.below hb5 a1.lt
              have hbx5 := hbx1.trans (hb5.mono hbx1.size)
              have hs5 := hb5.size
              have a6 := a5.alloc (.cells #[.string (strB k), .int .u64 (S : Int), .bool dd, .string (strB u)] 24)
              have y6 := At4.new w5 (.string (strB k)) (.int .u64 (S : Int)) (.bool dd) (.string (strB u)) 24
              have hbx6 := hbx5.alloc hbx5.size (.cells #[.string (strB k), .int .u64 (S : Int), .bool dd, .string (strB u)] 24)
              have hrd6 : Rd (w5.alloc (.cells #[.string (strB k), .int .u64 (S : Int), .bool dd, .string (strB u)] 24)) w3.heap.size Ad (nr - EL) (bys (cat (xs.drop (j + 1)) ++ bs)) :=
                (((hrd.alloc hsx _).below (hb5.mono (by omega))).alloc (by omega) _)
              have hs6 : (w5.alloc (.cells #[.string (strB k), .int .u64 (S : Int), .bool dd, .string (strB u)] 24)).heap.size = w5.heap.size + 1 := by simp
              clear a1 hbx1 hrd a5
              obtain ⟨p0, p1, p2, p3, _, _, _, _⟩ := id a6
              obtain ⟨y0, y1, y2, y3, _, _, _, _⟩ := id y6
              have e1 := strB_same k
              have e2 := strB_same u
              go_wp2_with fail
              go_roundg (n - (j + 1))
              case measure => have := HQ2.out; omega
              case rel => exact ⟨j + 1, rfl, by omega, by go_num, hbx6, by omega, Ad, nr - EL, cr - EL, rfl, hrd6, by omega, by omega⟩
            · have hlt2' : decide ((j : Int) < (n : Int)) = false := by simp; omega
              have hdn : xs.drop j = [] := List.drop_of_length_le (by rw [HXL.out]; omega)
              rw [hdn] at hrr
              have hrr' : Rd wr w3.heap.size Ar nr (bys bs) := by simpa [cat] using hrr
              have hcv1 := run_conv (P := Try.prog) cr hrr' 33 9 5 Try.underlying33 Try.underlying5 Try.underlying9
              have hcv2 := run_conv (P := Try.prog) d (hr.below hbx) 33 9 5 Try.underlying33 Try.underlying5 Try.underlying9
              have hsame := strB_same bs
              go_wp2_with fail
              go_ret
              exact ⟨rfl, hbx⟩
end Go.Proofs.Ytahbhaphodgomac
