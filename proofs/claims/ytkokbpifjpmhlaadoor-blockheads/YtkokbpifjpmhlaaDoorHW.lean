/- BlockHeads: the law's walk. -/
import Derived.Test.YtkokbpifjpmhlaaDoorHS
namespace Go.Proofs.YtkokbpifjpmhlaaDoor
set_option linter.unusedSimpArgs false
set_option linter.unusedVariables false
open Go.RowKit

theorem reflit4 (X : Nat) (hX : X < 18446744073709551616) (w : World) :
    Calls Tryd.prog 7 #[.int .u64 (X : Int), .int .i64 4] w fun e w' => ∃ v', e = .returned v' ∧ Buf w' w.heap.size v' 4 (bys (M.leB X 4)) ∧ Below w.heap.size w w' := by
  have := reflittle_any X hX 4 (by omega) w
  simpa using this
/-- The bytes laid after so many words of the list. -/
def preB (base : List Nat) (L : List Nat) : Nat → List Nat
  | 0 => base
  | j + 1 => preB base L j ++ M.leB (L.getD j 0) 4
theorem hdB_pre (X : Nat) (p r : List Nat) (t b n : Nat) : hdB X p r t b n = preB ((M.leB X 4 ++ p) ++ r) [t, b, n] 3 := rfl

theorem i64_and255 (n : Int) : bits .and .i64 n 255 = n % 256 := by
  have e : (BitVec.ofInt 64 n &&& BitVec.ofInt 64 255) = BitVec.ofNat 64 (n % 256).toNat := by
    apply BitVec.eq_of_toNat_eq
    rw [BitVec.toNat_and, show (BitVec.ofInt 64 255).toNat = 255 from by decide, BitVec.toNat_ofInt, BitVec.toNat_ofNat, show (255 : Nat) = 2 ^ 8 - 1 from rfl, Nat.and_two_pow_sub_one_eq_mod]
    omega
  have hx : bits .and .i64 n 255 = IntKind.i64.wrap (((BitVec.ofInt 64 n &&& BitVec.ofInt 64 255).toNat : Nat) : Int) := rfl
  rw [hx, e, BitVec.toNat_ofNat, IntKind.wrap_i64]
  omega
theorem row3 (t b n j : Nat) (h : j < 3) : ([t, b, n].map fun (x : Nat) => Value.int .u32 (x : Int))[j]? = some (.int .u32 (([t, b, n].getD j 0 : Nat) : Int)) := by
  rcases (by omega : j = 0 ∨ j = 1 ∨ j = 2) with rfl | rfl | rfl <;> rfl
theorem row3_lt {v : Int} {p r : List Nat} {t b n : Nat} (h : IsHd v p r t b n) (j : Nat) (hj : j < 3) : [t, b, n].getD j 0 < 4294967296 := by
  rcases (by omega : j = 0 ∨ j = 1 ∨ j = 2) with rfl | rfl | rfl
  · exact h.t
  · exact h.b
  · exact h.n
structure HdS (w3 : World) (g8 : Nat) (base : List Nat) (t b n : Nat) (wr : World) (u : Value) (j : Nat) : Prop where
  buf : Buf wr w3.heap.size u (68 + 4 * j) (bys (preB base [t, b, n] j))
  bel : Below w3.heap.size w3 wr
  row : Blk wr g8 24 ([t, b, n].map fun (x : Nat) => Value.int .u32 (x : Int)).toArray
  ne : ∀ k, u.ownBlock = some k → k ≠ g8

theorem parse_put (v : Int) (p r : List Nat) (t b n : Nat) (h : IsHd v p r t b n) (A : Option Addr) (k c : Nat) (bs : List Nat) (w : World) (hr : Rd w w.heap.size A k (bys (hdB (uv v) p r t b n ++ bs))) (hc : k ≤ c) :
    Calls Tryd.prog 10 #[.slice A k c] w fun e w' => e = .returned (.tuple #[.agg (hdC v p r t b n).toArray, .int .i64 0]) ∧ Below w.heap.size w w' := by
  have := parse_any A k c (M.leB (uv v) 4) p r (M.leB t 4) (M.leB b 4) (M.leB n 4) bs w hr (M.leB_len _ _) h.p.1 h.r.1 (M.leB_len _ _) (M.leB_len _ _) (M.leB_len _ _) (M.leB_lt _ _) (M.leB_lt _ _) (M.leB_lt _ _) (M.leB_lt _ _) hc
  rw [ver_back h.v0 h.v1, u32_back h.t, u32_back h.b, u32_back h.n] at this
  exact this

set_option maxHeartbeats 1000000 in
set_option maxRecDepth 100000 in
theorem heads_long (C : Value) (A : Option Addr) (m c : Nat) (at_ : Int) (w : World) (ht : ∀ W, Below w.heap.size w W → TabAt W) (hm : (100 : Int) < m) (hC : ∃ cs, C = .agg cs) :
    Calls Tryd.prog 3 #[C, .slice A m c, .int .i64 at_] w fun e w' => e = .returned (.bool true) ∧ Below w.heap.size w w' := by
  obtain ⟨cs, rfl⟩ := hC
  obtain ⟨W1, e1⟩ : ∃ W1, W1 = w.alloc (.cells cs 26) := ⟨_, rfl⟩
  have hB1 : Below w.heap.size w W1 := by rw [e1]; exact (Below.refl _ _).alloc (Nat.le_refl _) _
  have HH := Lib.hid (bhead_any W1 (ht W1 hB1))
  have HE := Lib.hid e1
  have HB1 := Lib.hid hB1
  clear ht e1 hB1
  go_enter Tryd.func3, Tryd.ntmps3
  go_upto_region 1 with fail
  rw [← HE.out]
  go_wp2_with fail
  refine HH.out.mono ?_
  rintro e w2 ⟨rfl, hb2⟩
  have hB2 := HB1.out.trans (hb2.mono HB1.out.size)
  go_wp2
  go_ret
  exact ⟨rfl, hB2⟩

set_option maxHeartbeats 4000000 in
set_option maxRecDepth 100000 in
theorem heads_walk (v : Int) (p r : List Nat) (t b n : Nat) (A : Option Addr) (m c : Nat) (bs : List Nat) (at_ : Int) (w : World) (h : IsHd v p r t b n) (hr : Rd w w.heap.size A m (bys bs)) (hbs : ∀ x ∈ bs, x < 256) (ht : TabAt w) (hm : (m : Int) ≤ 100) :
    Calls Tryd.prog 3 #[.agg (hdC v p r t b n).toArray, .slice A m c, .int .i64 at_] w fun e w' => e = .returned (.bool true) ∧ Below w.heap.size w w' := by
  obtain ⟨i0, hi5, hz0, hz1, hz2⟩ := info_parts Tryd.info5
  have lp : (bys p).length = 32 := by rw [bys_len]; exact h.p.1
  have lr : (bys r).length = 32 := by rw [bys_len]; exact h.r.1
  have HT := Lib.hid ht
  have H := Lib.hid h
  have HBS := Lib.hid hbs
  have HR := Lib.hid hr
  have HP := Lib.hid (hdC_p h)
  have HQ := Lib.hid (hdC_r h)
  have HC := Lib.hid (hdC_at h)
  have hl := hdC_len h
  have HEQ := Lib.hid (fun w => hd_eql h w)
  have hm100 : ¬ (100 : Int) < (m : Int) := by omega
  obtain ⟨C, eC⟩ : ∃ C, hdC v p r t b n = C := ⟨_, rfl⟩
  rw [eC] at hl HP HQ HC ⊢
  have HCE := Lib.hid eC
  have HSZ := Lib.hid (show (Tryd.prog.info? 26).map (·.size) = some C.length by rw [hl]; exact Tryd.size26)
  obtain ⟨W1, e1⟩ : ∃ W1, W1 = w.alloc (.cells C.toArray 26) := ⟨_, rfl⟩
  have hB1 : Below w.heap.size w W1 := by rw [e1]; exact (Below.refl _ _).alloc (Nat.le_refl _) _
  have k1 : Blk W1 w.heap.size 26 C.toArray := by rw [e1]; exact Blk.new _ _ _
  have HH := Lib.hid (bhead_any W1 (ht.below hB1 ht.1))
  have HE := Lib.hid e1
  have HB1 := Lib.hid hB1
  have s1 : W1.heap.size = w.heap.size + 1 := by rw [e1]; simp
  clear ht h hbs hr e1 eC hB1 hl
  go_enter Tryd.func3, Tryd.ntmps3
  go_upto_region 1 with fail
  rw [← HE.out]
  go_wp2_with fail
  refine HH.out.mono ?_
  rintro e w2 ⟨rfl, hb2⟩
  have hB2 := HB1.out.trans (hb2.mono HB1.out.size)
  have k2 := k1.below hb2 (by omega)
  have s2 := hb2.size
  have HR2 := Lib.hid k2.range
  have HB2 := Lib.hid hB2
  clear hb2 hB2 k1
  go_upto_region 5 with fail
  go_wp2_with (first
    | (refine wpList_load_mid rfl 26 (.tmp 3) rfl w.heap.size 0 rfl C _ HR2.out Tryd.underlying26 rfl HSZ.out ?_))
  rw [← HCE.out]
  refine (hbytes_any v p r t b n w2 H.out).mono ?_
  rintro e w3 ⟨u3, rfl, bf3, hb3⟩
  rw [HCE.out]
  have k3 := k2.below hb3 (by omega)
  have s3 := hb3.size
  have HB3 := Lib.hid (HB2.out.trans (hb3.mono HB2.out.size))
  obtain ⟨A3, c3, rfl, hc3, hr3⟩ := bf3.slice
  have HU3 := Lib.hid (fun wx (hb : Below w3.heap.size w3 wx) => hr3.below hb)
  have HK3 := Lib.hid (fun wx (hb : Below w3.heap.size w3 wx) => k3.below hb (by omega))
  have c0 := k3.cell 0 _ HC.out.1
  clear bf3 hr3 hb3 k2
  go_upto_region 6 with fail
  go_wp2_with fail
  rw [uw_cast]
  refine (reflit4 (uw v) (by have := uw_lt v; omega) w3).mono ?_
  rintro e w4 ⟨u4, rfl, bf4, hb4⟩
  have hb34 := hb4
  have k4 := HK3.out w4 hb34
  have r4 := k4.rdAt 1 32 (bys p) lp HP.out
  have s4 := hb4.size
  clear c0 k3
  go_upto_region 7 with fail
  go_wp2_with (at_builtin; refine wpList_append_buf _ rfl (.tmp 27) (.tmp 29) 27 rfl w3.heap.size 5 i0 (.int .u8 0) 1 Tryd.underlying27 hi5 hz0 hz1 hz2 rfl rfl bf4 rfl r4 (bys_one _) ?b1 ?b2 ?b0 ?next)
  case b1 => unfold maxLen; omega
  case b2 => omega
  case b0 => exact s4
  case next =>
    intro u5 w5 p1 p2 p3
    have hl5 : Laid w4 w3.heap.size _ w5 u5 (4 + 32) (bys (M.leB (uw v) 4) ++ bys p) := ⟨p1, p2, p3⟩
    have hb5 := hl5.below bf4 s4
    have hb35 := hb34.trans (hb5.mono (Nat.le_refl _))
    have bf5 := hl5.buf
    rw [← bys_app] at bf5
    have k5 := HK3.out w5 hb35
    have s5 := hb35.size
    have r5 := k5.rdAt 33 32 (bys r) lr HQ.out
    clear p1 p2 p3 k4 bf4 hb5 hl5 r4 hb34 hb4
    go_upto_region 8 with fail
    go_wp2_with (at_builtin; refine wpList_append_buf _ rfl (.tmp 31) (.tmp 33) 27 rfl w3.heap.size 5 i0 (.int .u8 0) 1 Tryd.underlying27 hi5 hz0 hz1 hz2 rfl rfl bf5 rfl r5 (bys_one _) ?b3 ?b4 ?b5 ?next2)
    case b3 => unfold maxLen; omega
    case b4 => omega
    case b5 => exact s5
    case next2 =>
      intro u6 w6 p1 p2 p3
      have hl6 : Laid w5 w3.heap.size _ w6 u6 (4 + 32 + 32) (bys (M.leB (uw v) 4 ++ p) ++ bys r) := ⟨p1, p2, p3⟩
      have hb6 := hl6.below bf5 s5
      have hb36 := hb35.trans (hb6.mono (Nat.le_refl _))
      have bf6 := hl6.buf
      rw [← bys_app] at bf6
      have k6 := HK3.out w6 hb36
      have s6 := hb36.size
      have c65 := k6.cell 65 _ HC.out.2.1
      have c66 := k6.cell 66 _ HC.out.2.2.1
      have c67 := k6.cell 67 _ HC.out.2.2.2
      clear p1 p2 p3 k5 bf5 hb6 hl6 r5 hb35
      obtain ⟨W7, e7⟩ : ∃ W7, W7 = w6.alloc (.cells #[.int .u32 (t : Int), .int .u32 (b : Int), .int .u32 (n : Int)] 24) := ⟨_, rfl⟩
      have S0 : HdS w3 w6.heap.size ((M.leB (uw v) 4 ++ p) ++ r) t b n W7 u6 0 := by
        refine ⟨by rw [e7]; exact bf6.alloc _, ?_, by rw [e7]; exact Blk.new _ _ _, fun k hk => by have := (bf6.lt k hk).2; omega⟩
        rw [e7]
        exact hb36.alloc s6 _
      have HE7 := Lib.hid e7
      have hg8 : w6.heap.size < W7.heap.size := by rw [e7]; simp
      go_upto_region 10 with fail
      rw [← HE7.out]
      obtain ⟨base, hbase⟩ : ∃ base, (M.leB (uw v) 4 ++ p) ++ r = base := ⟨_, rfl⟩
      rw [hbase] at S0
      have HBASE := Lib.hid hbase
      obtain ⟨g8, hg8e⟩ : ∃ g8, w6.heap.size = g8 := ⟨_, rfl⟩
      rw [hg8e] at S0 ⊢
      have HS0 := Lib.hid S0
      clear k6 s6 c65 c66 c67 bf6 hb36 e7 HE7 hg8 hbase hg8e S0
      go_loopg [8, 43] 3 (fun kk s8 s43 wr => ∃ j : Nat, kk = 3 - j ∧ j ≤ 3 ∧ s43 = .int .i64 (j : Int) ∧ Hid (HdS w3 g8 base t b n wr s8 j))
      case atStart => exact ⟨0, rfl, by omega, rfl, HS0⟩
      case round =>
        obtain ⟨j, hk, hj, rfl, HS⟩ := hrel
        have HKK := Lib.hid hk
        clear hk
        by_cases hlt : j < 3
        · have hlt' : (j : Int) < 3 := by omega
          have hcell := HS.out.row.cell j _ (row3 t b n j hlt)
          have hE := row3_lt H.out j hlt
          have HPB : Hid (preB base [t, b, n] (j + 1) = preB base [t, b, n] j ++ M.leB ([t, b, n].getD j 0) 4) := Lib.hid rfl
          obtain ⟨E, eE⟩ : ∃ E, [t, b, n].getD j 0 = E := ⟨_, rfl⟩
          rw [eE] at hcell hE HPB
          clear eE
          go_wp2_with fail
          refine (reflit4 E (by omega) wr).mono ?_
          rintro e wa ⟨ua, rfl, bfa, hba⟩
          obtain ⟨Aa, ca, rfl, _, hra⟩ := bfa.slice
          have hsz := HS.out.bel.size
          have bfu := HS.out.buf.below hba (fun k hk => (HS.out.buf.lt k hk).2)
          have hba3 := HS.out.bel.trans (hba.mono hsz)
          have ka := HS.out.row.below hba HS.out.row.lt
          clear bfa hba hcell hE
          go_wp2_with (at_builtin; refine wpList_append_buf _ rfl (.tmp 47) (.tmp 50) 27 rfl w3.heap.size 5 i0 (.int .u8 0) 1 Tryd.underlying27 hi5 hz0 hz1 hz2 rfl rfl bfu rfl hra (bys_one _) ?b6 ?b7 ?b8 ?next3)
          case b6 => unfold maxLen; omega
          case b7 => omega
          case b8 => exact hba3.size
          case next3 =>
            intro ub wb p1 p2 p3
            have hl : Laid wa w3.heap.size _ wb ub (68 + 4 * j + 4) (bys (preB base [t, b, n] j) ++ bys (M.leB E 4)) := ⟨p1, p2, p3⟩
            have hbb := hl.below bfu hba3.size
            have bfb := hl.buf
            rw [← bys_app, ← HPB.out] at bfb
            have S2 : HdS w3 g8 base t b n wb ub (j + 1) := by
              refine ⟨bfb, hba3.trans (hbb.mono (Nat.le_refl _)), ?_, fun k hk => ?_⟩
              · refine (hl.grown.block g8 ka.lt (fun e => ?_)).trans ka
                exact HS.out.ne g8 e.symm rfl
              · rcases hl.own with e | e
                · exact HS.out.ne k (e ▸ hk)
                · have := e k hk
                  have := ka.lt
                  omega
            have HS2 := Lib.hid S2
            clear p1 p2 p3 hl hbb bfb bfu hra ka S2
            go_wp2
            go_roundg (3 - (j + 1))
            case measure => have := HKK.out; omega
            case rel => exact ⟨j + 1, rfl, by omega, by go_num, HS2⟩
        · have hje : j = 3 := by omega
          subst hje
          have hpre : preB base [t, b, n] 3 = hdB (uv v) p r t b n := by rw [← HBASE.out, ← leB_uv]; rfl
          have bf8 : Buf wr w3.heap.size u8 80 (bys (preB base [t, b, n] 3)) := HS.out.buf
          rw [hpre] at bf8
          have hlt8 := hdB_lt (uv v) H.out
          have HPUT := Lib.hid (fun A k c bs w => parse_put v p r t b n H.out A k c bs w)
          have HID := Lib.hid (fun w => id_any v p r t b n w H.out)
          have hr3 := HU3.out wr HS.out.bel
          obtain ⟨BB, eBB⟩ : ∃ BB, hdB (uv v) p r t b n = BB := ⟨_, rfl⟩
          rw [eBB] at bf8 hlt8 HPUT HID hr3
          have HBr := Lib.hid (HB3.out.trans (HS.out.bel.mono HB3.out.size))
          have kc := HK3.out wr HS.out.bel
          have hwlt : w.heap.size < wr.heap.size := kc.lt
          have HRr := Lib.hid kc.range
          obtain ⟨A8, c8, rfl, hc8, hr8⟩ := bf8.slice
          have hcm8 := bf8.cap_le
          have hcv3 := run_conv (P := Tryd.prog) c3 hr3 27 9 5 Tryd.underlying27 Tryd.underlying5 Tryd.underlying9
          have hcv8 := run_conv (P := Tryd.prog) c8 hr8 27 9 5 Tryd.underlying27 Tryd.underlying5 Tryd.underlying9
          obtain ⟨SS, eSS⟩ : ∃ SS, strB BB = SS := ⟨_, rfl⟩
          rw [eSS] at hcv3 hcv8
          clear hpre bf8 eBB eSS hr3 HS HU3 HK3 HS0
          go_wp2_with (first
            | (refine wpList_load_mid_g rfl 26 (.tmp 3) rfl w.heap.size 0 rfl C _ HRr.out Tryd.underlying26 rfl HSZ.out ?_))
          rw [← HCE.out]
          refine (HID.out wr (HT.out.below HBr.out HT.out.1)).mono ?_
          rintro e w9 ⟨rfl, hb9⟩
          rw [HCE.out]
          have hr9 := (hr8.below hb9).up hb9.size
          have hB9 := HBr.out.trans (hb9.mono HBr.out.size)
          have k9 := kc.below hb9 hwlt
          clear hcv3 hcv8 hb9 kc hr8
          go_wp2_with fail
          refine (double_any A8 80 c8 BB w9 hr9 hlt8 (by omega) hc8 hcm8 (HT.out.below hB9 HT.out.1)).mono ?_
          rintro e w10 ⟨rfl, hb10⟩
          have hB10 := hB9.trans (hb10.mono hB9.size)
          have hr10 := (hr9.below hb10).up hb10.size
          have k10 := k9.below hb10 k9.lt
          have hDI : IsH (dg (dg BB)) := ⟨dg_len _, dg_lt _⟩
          obtain ⟨D, eD⟩ : ∃ D, dg (dg BB) = D := ⟨_, rfl⟩
          rw [eD] at hDI ⊢
          have heq := fun wx => h_eql1 D hDI wx
          have hgd := fun wx => run_eqGuard_agg (P := Tryd.prog) wx .neq 23 (.tmp 60) (.tmp 62) (bys D).toArray (bys D).toArray Tryd.eqg23
          obtain ⟨W11, e11⟩ : ∃ W11, W11 = w10.alloc (.cells #[] 5) := ⟨_, rfl⟩
          have bf11 : Buf W11 w10.heap.size (.slice (some ⟨w10.heap.size, 0, none⟩) 0 0) 0 [] := by
            have := World.ownsRow_lit (base := w10.heap.size) (e := 5) (size := 1) w10 #[] 0 (by simp) (by unfold maxLen; omega) rfl
            rw [e11]
            exact Buf.of_own (by simpa using this)
          have hb11 : Below w10.heap.size w10 W11 := by rw [e11]; exact (Below.refl _ _).alloc (Nat.le_refl _) _
          have HE11 := Lib.hid e11
          have r11 := (hr10.below hb11)
          have HB10 := Lib.hid hB10
          clear hb10 hB9 k9 hr9 eD e11 hB10
          go_upto_region 16 with fail
          clear heq hgd
          go_wp2_with (at_builtin; rw [← HE11.out]; refine wpList_append_buf _ rfl (.tmp 66) (.tmp 67) 27 rfl w10.heap.size 5 i0 (.int .u8 0) 1 Tryd.underlying27 hi5 hz0 hz1 hz2 rfl rfl bf11 rfl r11 (bys_one _) ?d1 ?d2 ?d3 ?next4)
          case d1 => unfold maxLen; omega
          case d2 => omega
          case d3 => exact hb11.size
          case next4 =>
            intro u12 w12 p1 p2 p3
            have hl12 : Laid W11 w10.heap.size _ w12 u12 (0 + 80) ([] ++ bys BB) := ⟨p1, p2, p3⟩
            have hb12 := hb11.trans ((hl12.below bf11 hb11.size).mono (Nat.le_refl _))
            have bf12 := hl12.buf
            rw [List.nil_append] at bf12
            have r12 := HR.out.below (HB10.out.trans (hb12.mono HB10.out.size))
            clear p1 p2 p3 hl12 bf11 r11 hb11
            go_wp2_with (at_builtin; refine wpList_append_buf _ rfl (.tmp 68) (.tmp 69) 27 rfl w10.heap.size 5 i0 (.int .u8 0) 1 Tryd.underlying27 hi5 hz0 hz1 hz2 rfl rfl bf12 rfl r12 (bys_one _) ?d4 ?d5 ?d6 ?next5)
            case d4 => unfold maxLen; omega
            case d5 => omega
            case d6 => exact hb12.size
            case next5 =>
              intro u13 w13 p1 p2 p3
              have hl13 : Laid w12 w10.heap.size _ w13 u13 (0 + 80 + m) (bys BB ++ bys bs) := ⟨p1, p2, p3⟩
              have hb13 := hb12.trans ((hl13.below bf12 hb12.size).mono (Nat.le_refl _))
              have bf13 := hl13.buf
              rw [← bys_app] at bf13
              obtain ⟨A13, c13, rfl, hc13, hr13⟩ := bf13.slice
              have hB13 := HB10.out.trans (hb13.mono HB10.out.size)
              have k13 := k10.below hb13 k10.lt
              clear p1 p2 p3 hl13 bf12 r12 bf13
              go_wp2_with fail
              refine (HPUT.out A13 _ c13 bs w13 hr13 hc13).mono ?_
              rintro e w14 ⟨rfl, hb14⟩
              rw [HCE.out]
              have hB14 := hB13.trans (hb14.mono hB13.size)
              have k14 := k13.below hb14 k13.lt
              have hlC : C.length = 68 := by rw [← HCE.out]; exact hdC_len H.out
              have HONE : Hid (∀ u ∈ C, u.oneCell' = true) := Lib.hid (by rw [← HCE.out]; exact hdC_one)
              have HTN := Lib.hid (there_new w14 ZHD.toArray 26 C.toArray.size (by simp [ZHD_len, hlC]))
              have kq : Blk ((w14.alloc (.cells ZHD.toArray 26)).setCells w14.heap.size 0 C) w14.heap.size 26 C.toArray := (Blk.new w14 26 ZHD.toArray).stored C (by simp [ZHD_len, hlC])
              have k14lt := k14.lt
              have kh : Blk ((w14.alloc (.cells ZHD.toArray 26)).setCells w14.heap.size 0 C) w.heap.size 26 C.toArray := (k14.alloc _).setCells _ _ _ (by omega)
              have hB15 : Below w.heap.size w ((w14.alloc (.cells ZHD.toArray 26)).setCells w14.heap.size 0 C) := Below.setCells' (hB14.alloc hB14.size _) _ _ hB14.size _
              have HSZA := Lib.hid (show (Tryd.prog.info? 26).map (·.size) = some C.toArray.size by simpa using HSZ.out)
              clear hb13 hc13 hr13 hB13 k13 hb14 hB14 hb12 hr10 k10
              go_upto_region 17 with (first
                | (refine wpList_of_wp rfl fun K hK => wp_alloc_arr 26 rfl ZHD.toArray Tryd.zero26 (hK _ _ ?_))
                | (refine wpList_store_mid rfl 26 (.tmp 11) (.tmp 72) rfl w14.heap.size 0 C.toArray rfl rfl HTN.out HSZA.out (all_oneCell_toArray HONE.out) ?_))
              change Code.wp _ _ _ _ ((w14.alloc (.cells ZHD.toArray 26)).setCells w14.heap.size 0 C)
              clear HTN k14
              generalize (w14.alloc (.cells ZHD.toArray 26)).setCells w14.heap.size 0 C = w15 at *
              generalize w14.heap.size = g11 at *
              obtain ⟨X, hX⟩ : ∃ X : Nat, at_ % 256 = (X : Int) := ⟨(at_ % 256).toNat, by omega⟩
              have hbits := i64_and255 at_
              rw [hX] at hbits
              have hX255 : X < 256 := by omega
              go_upto_region 18 with fail
              obtain ⟨Y, hY⟩ : ∃ Y : Nat, (X : Int) % 80 = (Y : Int) := ⟨X % 80, by omega⟩
              rw [hY]
              have hY80 : Y < 80 := by omega
              have hYc : Y ≤ c8 := by omega
              have hYi : (Y : Int) ≤ (c8 : Int) := by omega
              have hY0 : (0 : Int) ≤ (Y : Int) := by omega
              have hsl := fun wx => run_slice_h (P := Tryd.prog) wx 27 5 i0 Tryd.underlying27 hi5 hz1 A8 80 c8 Y hYc .i64 (Y : Int) rfl
              have HPS := Lib.hid (fun wx => parse_short A8 Y c8 wx hY80)
              have HB15 := Lib.hid hB15
              clear hbits hX hX255 hY hB15
              go_wp2_with fail
              refine (HPS.out w15).mono ?_
              rintro e w16 ⟨rfl, hb16⟩
              have hB16 := HB15.out.trans (hb16.mono HB15.out.size)
              have kq16 := kq.below hb16 kq.lt
              have kh16 := kh.below hb16 kh.lt
              have q16 := kq16.lt
              have h16 := kh16.lt
              have HZS := Lib.hid (show (Tryd.prog.info? 26).map (·.size) = some ZHD.toArray.size by rw [show ZHD.toArray.size = 68 by simp [ZHD_len]]; exact Tryd.size26)
              have HZ1 : Hid (∀ u ∈ ZHD, u.oneCell' = true) := Lib.hid hdC_one
              have HZZ := Lib.hid Tryd.zero26
              obtain ⟨Z, eZ⟩ : ∃ Z, ZHD = Z := ⟨_, rfl⟩
              rw [eZ] at HZS HZ1 HZZ ⊢
              clear eZ
              have HTN := Lib.hid (there_new w16 Z.toArray 26 Z.toArray.size rfl)
              have kq17 : Blk ((w16.alloc (.cells Z.toArray 26)).setCells w16.heap.size 0 Z) g11 26 C.toArray := (kq16.alloc _).setCells _ _ _ (by omega)
              have kh17 : Blk ((w16.alloc (.cells Z.toArray 26)).setCells w16.heap.size 0 Z) w.heap.size 26 C.toArray := (kh16.alloc _).setCells _ _ _ (by omega)
              have hB17 : Below w.heap.size w ((w16.alloc (.cells Z.toArray 26)).setCells w16.heap.size 0 Z) := Below.setCells' (hB16.alloc hB16.size _) _ _ hB16.size _
              have heq26 := HEQ.out
              rw [HCE.out] at heq26
              have hgd26 := fun wx => run_eqGuard_agg (P := Tryd.prog) wx .eql 26 (.tmp 87) (.tmp 88) C.toArray C.toArray guHd
              clear hsl kq kh hb16 hB16 kq16 kh16
              go_upto_region 19 with (first
                | (refine wpList_of_wp rfl fun K hK => wp_alloc_arr 26 rfl Z.toArray HZZ.out (hK _ _ ?_))
                | (refine wpList_store_mid rfl 26 (.tmp 13) (.tmp 82) rfl w16.heap.size 0 Z.toArray rfl rfl HTN.out HZS.out (all_oneCell_toArray HZ1.out) ?_))
              change Code.wp _ _ _ _ ((w16.alloc (.cells Z.toArray 26)).setCells w16.heap.size 0 Z)
              clear HTN
              generalize (w16.alloc (.cells Z.toArray 26)).setCells w16.heap.size 0 Z = w17 at *
              have HRQ := Lib.hid kq17.range
              have HRH := Lib.hid kh17.range
              have HB17 := Lib.hid hB17
              clear kq17 kh17 hB17 q16 h16
              go_wp2_with (first
                | (refine wpList_load_mid_g rfl 26 (.tmp 11) rfl g11 0 rfl C _ HRQ.out Tryd.underlying26 rfl HSZ.out ?_)
                | (refine wpList_load_mid_g rfl 26 (.tmp 3) rfl w.heap.size 0 rfl C _ HRH.out Tryd.underlying26 rfl HSZ.out ?_))
              go_ret
              exact ⟨rfl, HB17.out⟩
end Go.Proofs.YtkokbpifjpmhlaaDoor
