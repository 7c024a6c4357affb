/- The reference's Sum: the walk. -/
import Derived.Test.YtkokbpifjpmhlaaDoorRL3
import Derived.Test.YtkokbpifjpmhlaaDoorRL7
namespace Go.Proofs.YtkokbpifjpmhlaaDoor
set_option linter.unusedSimpArgs false
set_option linter.unusedVariables false
open Go.RowKit

theorem Tryd.size22 : (Tryd.prog.info? 22).map (·.size) = some 32 := by kernel_rfl
theorem Tryd.zero22 : (Tryd.prog.info? 22).map (·.zero) = some (some (.agg ZH)) := by kernel_rfl

set_option maxHeartbeats 40000000 in
set_option maxRecDepth 100000 in
theorem refsum_any (A : Option Addr) (n c : Nat) (bs : List Nat) (SS KK : List Int) (w : World) (hr : Rd w w.heap.size A n (bys bs)) (hb : ∀ c ∈ bs, c < 256) (hn : (n : Int) ≤ 100000000)
    (hS : SS.length = 8) (hK : KK.length = 64) (hSw : ∀ x ∈ SS, W32 x) (hKw : ∀ x ∈ KK, W32 x) :
    Calls Tryd.prog 39 #[.agg (us (SS ++ KK)).toArray, .slice A n c] w fun e w' => e = .returned (.agg (bys (dgK KK SS bs)).toArray) ∧ Below w.heap.size w w' := by
  obtain ⟨i5, hi5, hz0, hz1, hz2⟩ := info_parts Tryd.info5
  obtain ⟨i7, hi7, hy0, hy1, hy2⟩ := info_parts Tryd.info24
  have hlen : bs.length = n := by have := hr.1; rwa [bys_len] at this
  have HLEN := Lib.hid hlen
  have HB := Lib.hid hb
  have HSL := Lib.hid hS
  have HKL := Lib.hid hK
  have HSW := Lib.hid hSw
  have HKW := Lib.hid hKw
  obtain ⟨W2, e2⟩ : ∃ W2, W2 = (w.alloc (.cells (us (SS ++ KK)).toArray 47)).alloc (.cells ZH 22) := ⟨_, rfl⟩
  have hB2 : Below w.heap.size w W2 := by rw [e2]; exact ((Below.refl _ _).alloc (Nat.le_refl _) _).alloc (by simp) _
  have s2 : W2.heap.size = w.heap.size + 1 + 1 := by rw [e2]; simp
  have k0 : Blk W2 w.heap.size 47 (us (SS ++ KK)).toArray := by rw [e2]; exact heap_alloc2_old w _ _
  have k1 : Blk W2 (w.heap.size + 1) 22 ZH := by rw [e2]; exact heap_alloc2_new w _ _
  have HE2 := Lib.hid e2
  have hbf0 : Buf (W2.alloc (.cells #[] 5)) W2.heap.size (.slice (some ⟨W2.heap.size, 0, none⟩) 0 0) 0 [] := Buf.new W2 W2.heap.size 5 #[] (0, 0) (Nat.le_refl _) (by unfold maxLen; simp)
  have hb0 : Below W2.heap.size W2 (W2.alloc (.cells #[] 5)) := (Below.refl _ _).alloc (Nat.le_refl _) _
  have hr0 := (hr.below hB2).up (B' := W2.heap.size) hB2.size
  have hr1 := hr0.below hb0
  have HS2 := Lib.hid s2
  clear hlen hb hS hK hSw hKw e2 s2
  go_enter Tryd.func39, Tryd.ntmps39
  go_wp2_with (first
    | (refine wpList_of_wp rfl fun K hK => wp_alloc_arr 22 rfl ZH Tryd.zero22 (hK _ _ ?_); (try simp only [World.size_alloc]); rw [← HE2.out])
    | (at_builtin; refine wpList_append_buf _ rfl (.tmp 31) (.tmp 32) 27 rfl W2.heap.size 5 i5 (.int .u8 0) 1 Tryd.underlying27 hi5 hz0 hz1 hz2 rfl rfl hbf0 rfl hr1 (bys_one _) ?b1 ?b2 ?b0 ?next))
  case b1 => unfold maxLen; omega
  case b2 => omega
  case b0 => simp
  case next =>
    intro v1 w1 r1 r2 r3
    have hb1 : Below W2.heap.size W2 w1 := hb0.trans ((Below.refl _ _).grown r2 (by simp) fun k hk => (hbf0.lt k hk).1)
    have hs1 := hb1.size
    have r1' : Buf w1 W2.heap.size v1 n (bys bs) := by simpa using r1
    clear r1 r2 r3 hbf0 hb0 hr1 hr0
    go_wp2_with (at_builtin; refine wpList_append_one _ rfl (.tmp 34) (.tmp 35) 27 rfl W2.heap.size 5 i5 (.int .u8 0) 1 Tryd.underlying27 hi5 hz0 hz1 hz2 rfl rfl r1' rfl rfl ?b3 ?b4 hs1 ?next2)
    case b3 => unfold maxLen; omega
    case b4 => omega
    case next2 =>
      intro v2 w2 r1 r2 r3
      have hl2 : Laid w1 W2.heap.size v1 w2 v2 (n + 1) _ := ⟨r1, r2, r3⟩
      have hb2 : Below W2.heap.size W2 w2 := hb1.trans (hl2.below r1' hs1)
      have hbf2 : Buf w2 W2.heap.size v2 (n + 1 + 0) (bys (bs ++ 128 :: List.replicate 0 0)) := by
        have := hl2.buf
        rw [bys_app]; exact this
      clear r1 r2 r3 hl2 r1' hb1 hs1
      go_wp2_with fail
      go_loopg [5] (zc n) (fun k v wr => ∃ j, k = zc n - j ∧ j ≤ zc n ∧ Below W2.heap.size W2 wr ∧ Buf wr W2.heap.size v (n + 1 + j) (bys (bs ++ 128 :: List.replicate j 0)))
      case atStart => exact ⟨0, rfl, Nat.zero_le _, hb2, hbf2⟩
      case round =>
        clear hb2 hbf2
        obtain ⟨j, hk, hj, hbw, hbuf⟩ := hrel
        have hM := Lib.hid hk
        clear hk
        have hws := hbw.size
        obtain ⟨A3, c3, rfl, hc3, hrd3⟩ := hbuf.slice
        have hz := zc_lt n
        by_cases hlt : j < zc n
        · have hne := zc_ne n j hlt
          have hne' : (((n : Int) + 1 + (j : Int)) % 64 != 56) = true := by rw [bne_iff_ne]; omega
          go_wp2_with (at_builtin; refine wpList_append_one _ rfl (.tmp 41) (.tmp 42) 27 rfl W2.heap.size 5 i5 (.int .u8 0) 1 Tryd.underlying27 hi5 hz0 hz1 hz2 rfl rfl hbuf rfl rfl ?b5 ?b6 hws ?next3)
          case b5 => unfold maxLen; omega
          case b6 => omega
          case next3 =>
            intro v4 w4 r1 r2 r3
            have hl4 : Laid wr W2.heap.size _ w4 v4 (n + 1 + j + 1) _ := ⟨r1, r2, r3⟩
            have hb4 := hbw.trans (hl4.below hbuf hws)
            have hbf4 := hl4.buf
            clear r1 r2 r3 hl4
            go_wp2_with fail
            go_roundg (zc n - (j + 1))
            case measure => have := hM.out; omega
            case rel =>
              refine ⟨j + 1, rfl, by omega, hb4, ?_⟩
              rw [List.replicate_succ', ← List.cons_append, ← List.append_assoc, bys_app]
              exact hbf4
        · obtain rfl : j = zc n := by omega
          have heq := zc_eq n
          have hne' : (((n : Int) + 1 + ((zc n : Nat) : Int)) % 64 != 56) = false := by rw [bne_eq_false_iff_eq]; omega
          have hmb : (n : Int) + 1 + ((zc n : Nat) : Int) ≤ 100000100 := by omega
          have HFIN := Lib.hid (show (bs ++ 128 :: List.replicate (zc n) 0) ++ tlB (8 * n) 8 = pad bs by
            unfold pad tl; rw [HLEN.out, tlB_8]; simp)
          clear hrd3 hlt hj heq
          generalize hm : n + 1 + zc n = m at *
          generalize (bs ++ 128 :: List.replicate (zc n) 0) = TT at *
          have HM := Lib.hid hm
          clear hm
          have hmI : ((m : Nat) : Int) ≤ 100000100 := by have := HM.out; omega
          have hneM : (((m : Nat) : Int) % 64 != 56) = false := by
            rw [bne_eq_false_iff_eq] at hne' ⊢
            have := HM.out
            omega
          clear hne' hmb
          obtain ⟨w5, hw5⟩ : ∃ x, x = wr := ⟨_, rfl⟩
          subst hw5
          have hbt0 : Buf (w5.alloc (.cells #[] 5)) w5.heap.size (.slice (some ⟨w5.heap.size, 0, none⟩) 0 0) 0 (bys (tlB (8 * n) 0)) := Buf.new w5 w5.heap.size 5 #[] (0, 0) (Nat.le_refl _) (by unfold maxLen; simp)
          have hbb0 : Below w5.heap.size w5 (w5.alloc (.cells #[] 5)) := (Below.refl _ _).alloc (Nat.le_refl _) _
          go_wp2_with fail
          clear hneM
          go_loopg [6, 7, 8] 8 (fun k vb vt vi wx => ∃ j, k = 8 - j ∧ j ≤ 8 ∧ vi = .int .i64 j ∧ vb = .int .u64 ((8 * n / 256 ^ j : Nat) : Int) ∧ Below w5.heap.size w5 wx ∧ Buf wx w5.heap.size vt j (bys (tlB (8 * n) j)))
          case atStart => exact ⟨0, rfl, Nat.zero_le _, rfl, by simp, hbb0, hbt0⟩
          case round =>
            clear hbb0 hbt0
            obtain ⟨j, hk, hj, rfl, rfl, hbx, hbt⟩ := hrel
            have hM2 := Lib.hid hk
            clear hk
            have hxs := hbx.size
            by_cases hlj : j < 8
            · have hlj' : (j : Int) < 8 := by omega
              have hq : 8 * n / 256 ^ j ≤ 8 * n := Nat.div_le_self _ _
              have hsucc := Lib.hid (show 8 * n / 256 ^ (j + 1) = 8 * n / 256 ^ j / 256 by rw [Nat.pow_succ, Nat.div_div_eq_div_mul])
              have htl := Lib.hid (show tlB (8 * n) (j + 1) = (8 * n / 256 ^ j % 256) :: tlB (8 * n) j from rfl)
              have hqI : ((8 * n / 256 ^ j : Nat) : Int) ≤ 800000000 := by omega
              generalize 8 * n / 256 ^ j = X at *
              clear hq
              obtain ⟨At, ct, rfl, hct, hrt⟩ := hbt.slice
              have hlit : Buf (wr.alloc (.cells #[.int .u8 ((X : Int) % 256)] 5)) w5.heap.size (.slice (some ⟨wr.heap.size, 0, none⟩) 1 1) 1 [.int .u8 ((X : Int) % 256)] := Buf.new wr w5.heap.size 5 #[.int .u8 ((X : Int) % 256)] (0, 0) hxs (by unfold maxLen; simp)
              have hrt2 := hrt.alloc (Nat.le_refl _) (.cells #[.int .u8 ((X : Int) % 256)] 5)
              have hbx2 := hbx.alloc hxs (.cells #[.int .u8 ((X : Int) % 256)] 5)
              go_wp2_with (at_builtin; refine wpList_append_buf _ rfl (.tmp 56) (.tmp 57) 27 rfl w5.heap.size 5 i5 (.int .u8 0) 1 Tryd.underlying27 hi5 hz0 hz1 hz2 rfl rfl hlit rfl hrt2 (bys_one _) ?b7 ?b8 ?b9 ?next4)
              case b7 => unfold maxLen; omega
              case b8 => omega
              case b9 => simp; omega
              case next4 =>
                intro v4 w4 r1 r2 r3
                have hb4 : Below w5.heap.size w5 w4 := hbx2.trans ((Below.refl _ _).grown r2 (by simp; omega) fun k hk => (hlit.lt k hk).1)
                have hbf4 := r1
                clear r1 r2 r3 hlit hrt2 hbx2 hbt hrt
                go_wp2_with fail
                go_roundg (8 - (j + 1))
                case measure => have := hM2.out; omega
                case rel =>
                  refine ⟨j + 1, rfl, by omega, by go_num, ?_, hb4, ?_⟩
                  · rw [hsucc.out]; simp
                  · rw [htl.out, Nat.add_comm j 1]
                    unfold bys at hbf4 ⊢
                    rw [List.map_cons]
                    simpa using hbf4
            · obtain rfl : j = 8 := by omega
              have hdec : decide (((8 : Nat) : Int) < 8) = false := by decide
              generalize 8 * n / 256 ^ 8 = X256 at *
              have hbufx : Buf wr W2.heap.size (.slice A3 m c3) m (bys TT) := hbuf.below hbx (fun k hk => (hbuf.lt k hk).2)
              obtain ⟨At, ct, rfl, hct, hrt⟩ := hbt.slice
              have hbw2 := hbw.trans (hbx.mono hws)
              have hws2 := hbw2.size
              clear hbuf hbw hws hbt hbx hxs hlj
              go_wp2_with (at_builtin; refine wpList_append_buf _ rfl (.tmp 61) (.tmp 62) 27 rfl W2.heap.size 5 i5 (.int .u8 0) 1 Tryd.underlying27 hi5 hz0 hz1 hz2 rfl rfl hbufx rfl hrt (bys_one _) ?b10 ?b11 hws2 ?next5)
              case b10 => unfold maxLen; omega
              case b11 => omega
              case next5 =>
                intro v6 w6 r1 r2 r3
                have hl6 : Laid wr W2.heap.size _ w6 v6 (m + 8) _ := ⟨r1, r2, r3⟩
                have hb6 := hbw2.trans (hl6.below hbufx hws2)
                have hbf6 := hl6.buf
                rw [← bys_app, HFIN.out] at hbf6
                obtain ⟨AM, cM, rfl, hcM, hrM⟩ := hbf6.slice
                clear r1 r2 r3 hl6 hbufx hbw2 hws2 hrt hbf6
                have HP := Lib.hid (pad_64 bs)
                have HPL := Lib.hid (show (pad bs).length = m + 8 by have := hrM.1; rwa [bys_len] at this)
                obtain ⟨C, p1, p2, p3⟩ := HP.out
                rw [HPL.out] at p1
                have HC := Lib.hid p2
                rw [p1] at hrM hcM
                have hCI : 64 * (C : Int) ≤ 100000108 := by omega
                have HPL2 := Lib.hid (show (pad bs).length = 64 * C by rw [HPL.out, p1])
                have HML := Lib.hid (pad_lt bs HB.out)
                have HDG := Lib.hid (show dgK KK SS bs = hsh (fld KK SS (pad bs) C) by unfold dgK; rw [HC.out, fld_pad])
                rw [p1]
                have k0' := Lib.hid (k0.below hb6 k0.lt)
                have k1' := Lib.hid (k1.below hb6 k1.lt)
                have hB6 := Lib.hid (hB2.trans (hb6.mono hB2.size))
                have h6s := hb6.size
                have HW6 := Lib.hid (show w.heap.size + 1 + 1 ≤ w6.heap.size by have := HS2.out; omega)
                have hS8 : (us SS).length = 8 := by rw [us_len]; exact HSL.out
                have HS8 := Lib.hid hS8
                have HRS := Lib.hid (show w6.rangeAt w.heap.size 0 (us SS) from fun j v hv => k0'.out.range j v (by
                  show (us (SS ++ KK))[j]? = some v
                  unfold us at hv ⊢
                  rw [List.map_append]
                  rw [List.getElem?_append_left (List.getElem?_eq_some_iff.1 hv).1]; exact hv))
                have HTN := Lib.hid (there_new w6 Z8 44 (us SS).toArray.size (by rw [show (us SS).toArray.size = 8 from hS8]; rfl))
                have hR7 : RS w6 ((w6.alloc (.cells Z8 44)).setCells w6.heap.size 0 (us SS)) SS :=
                  ⟨Below.setCells' ((Below.refl _ _).alloc (Nat.le_refl _) _) _ _ (Nat.le_refl _) _, (Blk.new w6 44 Z8).stored (us SS) hS8⟩
                clear p1 p2 p3 k0 k1 hb6 hB2 hS8 hct hc3 hcM hdec hmI
                go_wp2_with (first
                  | (refine wpList_load_mid rfl 44 (.tmp 64) rfl w.heap.size 0 rfl (us SS) _ HRS.out Tryd.underlying44 rfl (by rw [HS8.out]; exact Tryd.size44) ?_)
                  | (refine wpList_of_wp rfl fun K hK => wp_alloc_arr 44 rfl Z8 Tryd.zero44 (hK _ _ ?_))
                  | (refine wpList_store_mid rfl 44 (.tmp 9) (.tmp 65) rfl w6.heap.size 0 (us SS).toArray rfl rfl HTN.out (by rw [show (us SS).toArray.size = 8 from HS8.out]; exact Tryd.size44) (all_oneCell_toArray (us_one _)) ?_))
                refine loop3 _ _ undef _ _ undef _ _ _ undef undef _ _ _ _ _ _ _ _ _ _ _ _ _ _ _ _ _ _ _ _ _ _ _ _ _ _ _ _ _ _ _ _ _ _ _ _ _ _ _ _ _ _ _ _ _ _ _ _ _ _ _ _ _ _ _ _ _ _ _ _ _ _ _ _ _ _ _ _ _ _ _ _ _ _ _ _ _ _ _ _ _ _ _ _ _ _ _ _ _ _ _ _ _ _ _ _ _ _ _ _ _ _ _ _ _ _ _ _ _ _ _ _ _ _ _ _ _ _ _ _ _ _ _ _ _ _ _ _ _ _ _ _ _ _ _ _ _ _ _ _ _ _ _ _ _ _ _ _ _ _ _ _ _ _ _ _ _ _ _ _ _ _ _ _ _ _ _ _ _ _ _ _ _ _ _ _ _ _ _ _ _ _ _ _ _ _ _ _ _ _ _ _ _ _ _ _ _ _ _ _ _ _ _ _ _ _ _ _ _ _ _ _ _ _ _ _ _ _ _ _ _ _ _ _ _ _ _ _ _ _ _ _ _ _ _ _ _ _ _ _ _ _ _ _ _ _ _ _ _ _ _ _ _ _ _ _ _ _ _ _ _ _ _ _ _ _ _ _ _ _ _ _ _ _ _ _ _ _ _ _ _ _ _ _ _ _ _ _ _ _ _ _ _ _ _ _ _ _ _ _ _ _ _ _ _ _ _ KK SS (pad bs) AM cM C w.heap.size w6 _ _ HKW HSW HSL HKL k0' hrM hCI HPL2 HML hR7 (Lib.hid ?_)
                clear hR7
                intro e11 e12 e13 e14 e15 e16 e17 e18 e19 e20 e21 e22 e23 e24 e25 e26 e66 e67 e68 e69 e70 e71 e72 e73 e74 e75 e76 e77 e78 e79 e80 e81 e82 e83 e84 e85 e86 e87 e88 e89 e90 e91 e92 e93 e94 e95 e96 e97 e98 e99 e100 e101 e102 e103 e104 e105 e106 e107 e108 e109 e110 e111 e112 e113 e114 e115 e116 e117 e118 e119 e120 e121 e122 e123 e124 e125 e126 e127 e128 e129 e130 e131 e132 e133 e134 e135 e136 e137 e138 e139 e140 e141 e142 e143 e144 e145 e146 e147 e148 e149 e150 e151 e152 e153 e154 e155 e156 e157 e158 e159 e160 e161 e162 e163 e164 e165 e166 e167 e168 e169 e170 e171 e172 e173 e174 e175 e176 e177 e178 e179 e180 e181 e182 e183 e184 e185 e186 e187 e188 e189 e190 e191 e192 e193 e194 e195 e196 e197 e198 e199 e200 e201 e202 e203 e204 e205 e206 e207 e208 e209 e210 e211 e212 e213 e214 e215 e216 e217 e218 e219 e220 e221 e222 e223 e224 e225 e226 e227 e228 e229 e230 e231 e232 e233 e234 e235 e236 e237 e238 e239 e240 e241 e242 e243 e244 e245 e246 e247 e248 e249 e250 e251 e252 e253 e254 e255 e256 e257 e258 e259 e260 e261 e262 e263 e264 e265 e266 e267 e268 e269 e270 e271 e272 e273 e274 e275 e276 e277 e278 e279 e280 e281 e282 e283 e284 e285 e286 e287 e288 e289 e290 e291 e292 e293 e294 wx hRx
                have HTw := Lib.hid (fld_w KK SS (pad bs) HSW.out C)
                have HTl := Lib.hid (fld_len KK SS (pad bs) HSL.out C)
                have hdg := HDG.out
                obtain ⟨s, es⟩ : ∃ s, fld KK SS (pad bs) C = s := ⟨_, rfl⟩
                rw [es] at HTw HTl hRx hdg
                have HDG2 := Lib.hid hdg
                clear hdg es hrM
                have hxs := hRx.low.size
                have hst := hRx.st.lt
                have HTO := Lib.hid (there_new wx ZH 22 ZH.size rfl)
                have hH0 : HO wx ((wx.alloc (.cells ZH 22)).setCells wx.heap.size 0 ZH.toList) s w6.heap.size wx.heap.size (hTo s 0) := by
                  refine ⟨Below.setCells' ((Below.refl _ _).alloc (Nat.le_refl _) _) _ _ (Nat.le_refl _) _, (hRx.st.alloc _).setCells _ _ _ (by omega), ?_⟩
                  rw [hTo_zero]
                  exact (Blk.new wx 22 ZH).stored _ (by simp)
                go_wp2_with (first
                  | (refine wpList_of_wp rfl fun K hK => wp_alloc_arr 22 rfl ZH Tryd.zero22 (hK _ _ ?_))
                  | (refine wpList_store_mid rfl 22 (.tmp 27) (.tmp 295) rfl wx.heap.size 0 ZH rfl rfl HTO.out (by rw [ZH_size]; exact Tryd.size22) (by kernel_rfl) ?_))
                refine loop7 _ _ _ _ _ _ _ _ _ undef _ _ _ _ _ _ _ _ _ _ _ _ _ _ _ _ _ undef undef _ _ _ _ _ _ _ _ _ _ _ _ _ _ _ _ _ _ _ _ _ _ _ _ _ _ _ _ _ _ _ _ _ _ _ _ _ _ _ _ _ _ _ _ _ _ _ _ _ _ _ _ _ _ _ _ _ _ _ _ _ _ _ _ _ _ _ _ _ _ _ _ _ _ _ _ _ _ _ _ _ _ _ _ _ _ _ _ _ _ _ _ _ _ _ _ _ _ _ _ _ _ _ _ _ _ _ _ _ _ _ _ _ _ _ _ _ _ _ _ _ _ _ _ _ _ _ _ _ _ _ _ _ _ _ _ _ _ _ _ _ _ _ _ _ _ _ _ _ _ _ _ _ _ _ _ _ _ _ _ _ _ _ _ _ _ _ _ _ _ _ _ _ _ _ _ _ _ _ _ _ _ _ _ _ _ _ _ _ _ _ _ _ _ _ _ _ _ _ _ _ _ _ _ _ _ _ _ _ _ _ _ _ _ _ _ _ _ _ _ _ _ _ _ _ _ _ _ _ _ _ _ _ _ _ _ _ _ _ _ _ _ _ _ _ _ _ _ _ _ _ _ _ _ _ _ _ _ _ _ _ _ _ _ _ _ _ _ _ _ _ _ _ _ _ _ _ _ _ _ _ _ _ _ _ _ _ _ _ s w6.heap.size wx.heap.size wx _ _ HTw HTl hst hH0 (Lib.hid ?_)
                clear hH0
                intro e29 e30 e296 e297 e298 e299 e300 e301 e302 e303 e304 e305 e306 e307 e308 e309 e310 e311 e312 e313 e314 e315 e316 wy hHy
                have hk1y := (k1'.out.below hRx.low (by have := HW6.out; omega)).below hHy.low (by have := HW6.out; omega)
                have hBy : Below w.heap.size w wy := (hB6.out.trans (hRx.low.mono (by have := HW6.out; omega))).trans (hHy.low.mono (by have := HW6.out; omega))
                have hout := hHy.out
                rw [hTo_all] at hout
                have hl5 := hsh_len s
                obtain ⟨D, eD⟩ : ∃ D, hsh s = D := ⟨_, rfl⟩
                rw [eD] at hout hl5
                have HFIN := Lib.hid (show dgK KK SS bs = D by rw [HDG2.out, eD])
                have hsz : (bys D).length = 32 := by rw [bys_len]; exact hl5
                have HSZ := Lib.hid hsz
                have HR2 := Lib.hid hout.range
                have HTH := Lib.hid (show wy.there (w.heap.size + 1) 0 (bys D).toArray.size by
                  have := hk1y.there
                  rw [show (bys D).toArray.size = 32 from hsz]; exact this)
                clear hsz hl5 hout hk1y hHy hRx hst eD
                go_wp2_with (first
                  | (refine wpList_load_mid rfl 22 (.tmp 27) rfl wx.heap.size 0 rfl (bys D) _ HR2.out Tryd.underlying22 rfl (by rw [HSZ.out]; exact Tryd.size22) ?_)
                  | (refine wpList_store_mid rfl 22 (.tmp 4) (.tmp 317) rfl (w.heap.size + 1) 0 (bys D).toArray rfl rfl HTH.out (by rw [show (bys D).toArray.size = 32 from HSZ.out]; exact Tryd.size22) (all_oneCell_toArray (bys_one _)) ?_))
                exact bodyPost_ret (results_arr rfl _ _ (w.heap.size + 1) (bys D) _ rfl (World.rangeAt_setCells_same _ _ _ _ (by simpa using HTH.out)) Tryd.underlying22 rfl (by rw [HSZ.out]; exact Tryd.size22)) rfl ⟨by rw [HFIN.out], Below.setCells' hBy _ _ (by omega) _⟩
end Go.Proofs.YtkokbpifjpmhlaaDoor
