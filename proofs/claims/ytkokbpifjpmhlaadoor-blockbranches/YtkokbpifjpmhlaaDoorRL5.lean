/- The fifth loop of the reference's Sum. -/
import Derived.Test.YtkokbpifjpmhlaaDoorRL
import Derived.Deep.Light
import Derived.Test.YtkokbpifjpmhlaaDoorKeep
namespace Go.Proofs.YtkokbpifjpmhlaaDoor
set_option linter.unusedSimpArgs false
set_option linter.unusedVariables false
open Go.RowKit

set_option maxHeartbeats 8000000 in
set_option maxRecDepth 1000000 in
theorem loop5 (e0 e1 e2 e3 e4 e5 e6 e7 e8 e9 e10 e11 e12 e13 e14 e15 e16 e17 e18 e19 e20 e21 e22 e23 e24 e25 e26 e27 e28 e29 e30 e31 e32 e33 e34 e35 e36 e37 e38 e39 e40 e41 e42 e43 e44 e45 e46 e47 e48 e49 e50 e51 e52 e53 e54 e55 e56 e57 e58 e59 e60 e61 e62 e63 e64 e65 e66 e67 e68 e69 e70 e71 e72 e73 e74 e75 e76 e77 e78 e79 e80 e81 e82 e83 e84 e85 e86 e87 e88 e89 e90 e91 e92 e93 e94 e95 e96 e97 e98 e99 e100 e101 e102 e103 e104 e105 e106 e107 e108 e109 e110 e111 e112 e113 e114 e115 e116 e117 e118 e119 e120 e121 e122 e123 e124 e125 e126 e127 e128 e129 e130 e131 e132 e133 e134 e135 e136 e137 e138 e139 e140 e141 e142 e143 e144 e145 e146 e147 e148 e149 e150 e151 e152 e153 e154 e155 e156 e157 e158 e159 e160 e161 e162 e163 e164 e165 e166 e167 e168 e169 e170 e171 e172 e173 e174 e175 e176 e177 e178 e179 e180 e181 e182 e183 e184 e185 e186 e187 e188 e189 e190 e191 e192 e193 e194 e195 e196 e197 e198 e199 e200 e201 e202 e203 e204 e205 e206 e207 e208 e209 e210 e211 e212 e213 e214 e215 e216 e217 e218 e219 e220 e221 e222 e223 e224 e225 e226 e227 e228 e229 e230 e231 e232 e233 e234 e235 e236 e237 e238 e239 e240 e241 e242 e243 e244 e245 e246 e247 e248 e249 e250 e251 e252 e253 e254 e255 e256 e257 e258 e259 e260 e261 e262 e263 e264 e265 e266 e267 e268 e269 e270 e271 e272 e273 e274 e275 e276 e277 e278 e279 e280 e281 e282 e283 e284 e285 e286 e287 e288 e289 e290 e291 e292 e293 e294 e295 e296 e297 e298 e299 e300 e301 e302 e303 e304 e305 e306 e307 e308 e309 e310 e311 e312 e313 e314 e315 e316 e317 : Value) (ww : List Int) (w8 wr0 : World) (Q0 : Exit → Act → World → Prop)
    (hW16 : Hid (∀ x ∈ ww, W32 x)) (hL16 : Hid (ww.length = 16)) (hbx : Below w8.heap.size w8 wr0) (hbf5 : Buf wr0 w8.heap.size e11 (16 + 0) (us (ext ww 0)))
    (hP2 : Hid (∀ k, nw (ext ww k) = ((ext ww k).getD (16 + k - 16) 0 + pw ((ext ww k).getD (16 + k - 15) 0) + (ext ww k).getD (16 + k - 7) 0 + qw ((ext ww k).getD (16 + k - 2) 0)) % 4294967296))
    (hexit : Hid (∀ (e11 e14 e15 e112 e113 e114 e115 e116 e117 e118 e119 e120 e121 e122 e123 e124 e125 e126 e127 e128 e129 e130 e131 e132 e133 e134 e135 e136 e137 e138 e139 e140 e141 e142 e143 e144 e145 e146 e147 e148 e149 e150 e151 e152 e153 e154 e155 e156 e157 e158 e159 e160 e161 e162 e163 e164 e165 e166 e167 e168 e169 e170 e171 e172 e173 : Value) (wx : World), Below w8.heap.size w8 wx → Buf wx w8.heap.size e11 64 (us (ext ww 48)) → Q0 (.exit 8) ⟨(e0 :: e1 :: e2 :: e3 :: e4 :: e5 :: e6 :: e7 :: e8 :: e9 :: e10 :: e11 :: e12 :: .int .i64 64 :: e14 :: e15 :: e16 :: e17 :: e18 :: e19 :: e20 :: e21 :: e22 :: e23 :: e24 :: e25 :: e26 :: e27 :: e28 :: e29 :: e30 :: e31 :: e32 :: e33 :: e34 :: e35 :: e36 :: e37 :: e38 :: e39 :: e40 :: e41 :: e42 :: e43 :: e44 :: e45 :: e46 :: e47 :: e48 :: e49 :: e50 :: e51 :: e52 :: e53 :: e54 :: e55 :: e56 :: e57 :: e58 :: e59 :: e60 :: e61 :: e62 :: e63 :: e64 :: e65 :: e66 :: e67 :: e68 :: e69 :: e70 :: e71 :: e72 :: e73 :: e74 :: e75 :: e76 :: e77 :: e78 :: e79 :: e80 :: e81 :: e82 :: e83 :: e84 :: e85 :: e86 :: e87 :: e88 :: e89 :: e90 :: e91 :: e92 :: e93 :: e94 :: e95 :: e96 :: e97 :: e98 :: e99 :: e100 :: e101 :: e102 :: e103 :: e104 :: e105 :: e106 :: e107 :: e108 :: e109 :: e110 :: e111 :: e112 :: e113 :: e114 :: e115 :: e116 :: e117 :: e118 :: e119 :: e120 :: e121 :: e122 :: e123 :: e124 :: e125 :: e126 :: e127 :: e128 :: e129 :: e130 :: e131 :: e132 :: e133 :: e134 :: e135 :: e136 :: e137 :: e138 :: e139 :: e140 :: e141 :: e142 :: e143 :: e144 :: e145 :: e146 :: e147 :: e148 :: e149 :: e150 :: e151 :: e152 :: e153 :: e154 :: e155 :: e156 :: e157 :: e158 :: e159 :: e160 :: e161 :: e162 :: e163 :: e164 :: e165 :: e166 :: e167 :: e168 :: e169 :: e170 :: e171 :: e172 :: e173 :: e174 :: e175 :: e176 :: e177 :: e178 :: e179 :: e180 :: e181 :: e182 :: e183 :: e184 :: e185 :: e186 :: e187 :: e188 :: e189 :: e190 :: e191 :: e192 :: e193 :: e194 :: e195 :: e196 :: e197 :: e198 :: e199 :: e200 :: e201 :: e202 :: e203 :: e204 :: e205 :: e206 :: e207 :: e208 :: e209 :: e210 :: e211 :: e212 :: e213 :: e214 :: e215 :: e216 :: e217 :: e218 :: e219 :: e220 :: e221 :: e222 :: e223 :: e224 :: e225 :: e226 :: e227 :: e228 :: e229 :: e230 :: e231 :: e232 :: e233 :: e234 :: e235 :: e236 :: e237 :: e238 :: e239 :: e240 :: e241 :: e242 :: e243 :: e244 :: e245 :: e246 :: e247 :: e248 :: e249 :: e250 :: e251 :: e252 :: e253 :: e254 :: e255 :: e256 :: e257 :: e258 :: e259 :: e260 :: e261 :: e262 :: e263 :: e264 :: e265 :: e266 :: e267 :: e268 :: e269 :: e270 :: e271 :: e272 :: e273 :: e274 :: e275 :: e276 :: e277 :: e278 :: e279 :: e280 :: e281 :: e282 :: e283 :: e284 :: e285 :: e286 :: e287 :: e288 :: e289 :: e290 :: e291 :: e292 :: e293 :: e294 :: e295 :: e296 :: e297 :: e298 :: e299 :: e300 :: e301 :: e302 :: e303 :: e304 :: e305 :: e306 :: e307 :: e308 :: e309 :: e310 :: e311 :: e312 :: e313 :: e314 :: e315 :: e316 :: e317 :: []).toArray, []⟩ wx)) :
    Code.wp Tryd.prog (.loop (lp 4)) Q0 ⟨(e0 :: e1 :: e2 :: e3 :: e4 :: e5 :: e6 :: e7 :: e8 :: e9 :: e10 :: e11 :: e12 :: .int .i64 16 :: e14 :: e15 :: e16 :: e17 :: e18 :: e19 :: e20 :: e21 :: e22 :: e23 :: e24 :: e25 :: e26 :: e27 :: e28 :: e29 :: e30 :: e31 :: e32 :: e33 :: e34 :: e35 :: e36 :: e37 :: e38 :: e39 :: e40 :: e41 :: e42 :: e43 :: e44 :: e45 :: e46 :: e47 :: e48 :: e49 :: e50 :: e51 :: e52 :: e53 :: e54 :: e55 :: e56 :: e57 :: e58 :: e59 :: e60 :: e61 :: e62 :: e63 :: e64 :: e65 :: e66 :: e67 :: e68 :: e69 :: e70 :: e71 :: e72 :: e73 :: e74 :: e75 :: e76 :: e77 :: e78 :: e79 :: e80 :: e81 :: e82 :: e83 :: e84 :: e85 :: e86 :: e87 :: e88 :: e89 :: e90 :: e91 :: e92 :: e93 :: e94 :: e95 :: e96 :: e97 :: e98 :: e99 :: e100 :: e101 :: e102 :: e103 :: e104 :: e105 :: e106 :: e107 :: e108 :: e109 :: e110 :: e111 :: e112 :: e113 :: e114 :: e115 :: e116 :: e117 :: e118 :: e119 :: e120 :: e121 :: e122 :: e123 :: e124 :: e125 :: e126 :: e127 :: e128 :: e129 :: e130 :: e131 :: e132 :: e133 :: e134 :: e135 :: e136 :: e137 :: e138 :: e139 :: e140 :: e141 :: e142 :: e143 :: e144 :: e145 :: e146 :: e147 :: e148 :: e149 :: e150 :: e151 :: e152 :: e153 :: e154 :: e155 :: e156 :: e157 :: e158 :: e159 :: e160 :: e161 :: e162 :: e163 :: e164 :: e165 :: e166 :: e167 :: e168 :: e169 :: e170 :: e171 :: e172 :: e173 :: e174 :: e175 :: e176 :: e177 :: e178 :: e179 :: e180 :: e181 :: e182 :: e183 :: e184 :: e185 :: e186 :: e187 :: e188 :: e189 :: e190 :: e191 :: e192 :: e193 :: e194 :: e195 :: e196 :: e197 :: e198 :: e199 :: e200 :: e201 :: e202 :: e203 :: e204 :: e205 :: e206 :: e207 :: e208 :: e209 :: e210 :: e211 :: e212 :: e213 :: e214 :: e215 :: e216 :: e217 :: e218 :: e219 :: e220 :: e221 :: e222 :: e223 :: e224 :: e225 :: e226 :: e227 :: e228 :: e229 :: e230 :: e231 :: e232 :: e233 :: e234 :: e235 :: e236 :: e237 :: e238 :: e239 :: e240 :: e241 :: e242 :: e243 :: e244 :: e245 :: e246 :: e247 :: e248 :: e249 :: e250 :: e251 :: e252 :: e253 :: e254 :: e255 :: e256 :: e257 :: e258 :: e259 :: e260 :: e261 :: e262 :: e263 :: e264 :: e265 :: e266 :: e267 :: e268 :: e269 :: e270 :: e271 :: e272 :: e273 :: e274 :: e275 :: e276 :: e277 :: e278 :: e279 :: e280 :: e281 :: e282 :: e283 :: e284 :: e285 :: e286 :: e287 :: e288 :: e289 :: e290 :: e291 :: e292 :: e293 :: e294 :: e295 :: e296 :: e297 :: e298 :: e299 :: e300 :: e301 :: e302 :: e303 :: e304 :: e305 :: e306 :: e307 :: e308 :: e309 :: e310 :: e311 :: e312 :: e313 :: e314 :: e315 :: e316 :: e317 :: []).toArray, []⟩ wr0 := by
  obtain ⟨i7, hi7, hy0, hy1, hy2⟩ := info_parts Tryd.info24
  conv => arg 2; arg 1; whnf
  go_loopg [11, 13] 48 (fun k v vi wr => ∃ j, k = 48 - j ∧ j ≤ 48 ∧ vi = .int .i64 ((16 + j : Nat) : Int) ∧ Below w8.heap.size w8 wr ∧ Buf wr w8.heap.size v (16 + j) (us (ext ww j)))
  case atStart => exact ⟨0, rfl, Nat.zero_le _, rfl, hbx, hbf5⟩
  case round =>
    clear hbx hbf5
    obtain ⟨j, hk, hj, rfl, hbx, hbf⟩ := hrel
    have hM5 := Lib.hid hk
    clear hk
    have hxs := hbx.size
    by_cases hlj : j < 48
    · obtain ⟨AW, cW, rfl, hcW, hrW⟩ := hbf.slice
      obtain ⟨gW, oW, eW, hgW, hcW2⟩ := hrW.2 (by omega)
      subst eW
      have hlen := Lib.hid (show (ext ww j).length = 16 + j by rw [ext_len, hL16.out])
      have hWx := ext_w ww hW16.out j
      have d15 := hcW2 (16 + j - 15) _ (us_get _ _ (by rw [hlen.out]; omega))
      have d16 := hcW2 (16 + j - 16) _ (us_get _ _ (by rw [hlen.out]; omega))
      have d7 := hcW2 (16 + j - 7) _ (us_get _ _ (by rw [hlen.out]; omega))
      have d2 := hcW2 (16 + j - 2) _ (us_get _ _ (by rw [hlen.out]; omega))
      have hnw := hP2.out j
      have w15 := getD_w _ hWx (16 + j - 15)
      have w2' := getD_w _ hWx (16 + j - 2)
      have hext := Lib.hid (show ext ww (j + 1) = ext ww j ++ [nw (ext ww j)] from rfl)
      clear hWx hcW2 hrW
      obtain ⟨t, ht⟩ : ∃ t, t = 16 + j := ⟨_, rfl⟩
      rw [← ht] at d15 d16 d7 d2 hnw w15 w2' hbf ⊢
      have x16e : (us (ext ww j))[t - 16]? = some (.int .u32 ((ext ww j).getD (t - 16) 0)) := us_get _ _ (by rw [hlen.out]; omega)
      have x7e : (us (ext ww j))[t - 7]? = some (.int .u32 ((ext ww j).getD (t - 7) 0)) := us_get _ _ (by rw [hlen.out]; omega)
      generalize (ext ww j).getD (t - 15) 0 = x15 at *
      generalize (ext ww j).getD (t - 16) 0 = x16 at *
      generalize (ext ww j).getD (t - 7) 0 = x7 at *
      generalize (ext ww j).getD (t - 2) 0 = x2 at *
      have HNW := Lib.hid (show nw (ext ww j) = (x16 + bits BinOp.xor IntKind.u32 (bits BinOp.xor IntKind.u32 (rr 128 33554432 x15) (rr 262144 16384 x15)) (x15 / 8) + x7 + bits BinOp.xor IntKind.u32 (bits BinOp.xor IntKind.u32 (rr 131072 32768 x2) (rr 524288 8192 x2)) (x2 / 1024)) % 4294967296 from hnw)
      have X16 := Lib.hid x16e
      have X7 := Lib.hid x7e
      clear x16e x7e
      have H15 := Lib.hid w15
      have H2 := Lib.hid w2'
      have x15b := w15.1
      have x15c := w15.2
      have x2b := w2'.1
      have x2c := w2'.2
      clear hnw w15 w2'
      have t1 : (t : Int) < 64 := by omega
      have t2 : (16 : Int) ≤ (t : Int) := by omega
      have HTJ := Lib.hid ht
      clear ht
      have z1 := IntWalk.i64_in ((t : Int) - 15) (by omega)
      have y1 : ((t : Int) - 15).toNat = t - 15 := by omega
      have na15 : (15 : Int) ≤ (t : Int) := by omega
      have nb15 : 15 ≤ t := by omega
      have nc15 : (t : Int) - 15 < (t : Int) := by omega
      have nd15 : (0 : Int) ≤ (t : Int) - 15 := by omega
      have z2 := IntWalk.i64_in ((t : Int) - 2) (by omega)
      have y2 : ((t : Int) - 2).toNat = t - 2 := by omega
      have na2 : (2 : Int) ≤ (t : Int) := by omega
      have nb2 : 2 ≤ t := by omega
      have nc2 : (t : Int) - 2 < (t : Int) := by omega
      have nd2 : (0 : Int) ≤ (t : Int) - 2 := by omega
      have z3 := IntWalk.i64_in ((t : Int) - 16) (by omega)
      have y3 : ((t : Int) - 16).toNat = t - 16 := by omega
      have na16 : (16 : Int) ≤ (t : Int) := by omega
      have nb16 : 16 ≤ t := by omega
      have nc16 : (t : Int) - 16 < (t : Int) := by omega
      have nd16 : (0 : Int) ≤ (t : Int) - 16 := by omega
      have z4 := IntWalk.i64_in ((t : Int) - 7) (by omega)
      have y4 : ((t : Int) - 7).toNat = t - 7 := by omega
      have na7 : (7 : Int) ≤ (t : Int) := by omega
      have nb7 : 7 ≤ t := by omega
      have nc7 : (t : Int) - 7 < (t : Int) := by omega
      have nd7 : (0 : Int) ≤ (t : Int) - 7 := by omega
      go_wp2_with fail
      go_quiet ((go_at_call 41; first | (with_reducible exact quiet_same (refright7_any _ H15.out _)) | (with_reducible exact quiet_same (refright18_any _ H15.out _))))
      have hbx' := Below.drewN' hbx nq
      have hbf' := hbf.drewN nq
      have d16' : (wr.drewN nq).cell? _ = _ := d16
      have d7' : (wr.drewN nq).cell? _ = _ := d7
      have d2' : (wr.drewN nq).cell? _ = _ := d2
      have hgW' : gW < (wr.drewN nq).heap.size := hgW
      have hxs' : w8.heap.size ≤ (wr.drewN nq).heap.size := hxs
      clear d16 d7 d2 d15 hbx hbf hgW hxs
      generalize wr.drewN nq = wr2 at *
      go_wp2_with fail
      go_quiet ((go_at_call 41; first | (with_reducible exact quiet_same (refright17_any _ H2.out _)) | (with_reducible exact quiet_same (refright19_any _ H2.out _))))
      have hbx := Below.drewN' hbx' nq
      have hbf := hbf'.drewN nq
      have d16 : (wr2.drewN nq).cell? _ = _ := d16'
      have d7 : (wr2.drewN nq).cell? _ = _ := d7'
      have hgW : gW < (wr2.drewN nq).heap.size := hgW'
      have hxs : w8.heap.size ≤ (wr2.drewN nq).heap.size := hxs'
      clear d16' d7' d2' hbx' hbf' hgW' hxs'
      generalize wr2.drewN nq = wr3 at *
      have HNW2 := HNW.out
      generalize bits BinOp.xor IntKind.u32 (bits BinOp.xor IntKind.u32 (rr 128 33554432 x15) (rr 262144 16384 x15)) (x15 / 8) = XP at *
      generalize bits BinOp.xor IntKind.u32 (bits BinOp.xor IntKind.u32 (rr 131072 32768 x2) (rr 524288 8192 x2)) (x2 / 1024) = XQ at *
      have HNW3 := Lib.hid HNW2
      clear HNW2
      have hKeep := Lib.hid (fun (wx : World) (hrd : Rd wx wr3.heap.size (some ⟨gW, oW, none⟩) t (us (ext ww j))) => show wx.cell? ⟨gW, oW + (t - 16), none⟩ = some (.int .u32 x16) ∧ wx.cell? ⟨gW, oW + (t - 7), none⟩ = some (.int .u32 x7) by
        obtain ⟨g', o', e', _, hc'⟩ := hrd.2 (by omega)
        injection e' with e'
        injection e' with e1 e2
        subst e1
        subst e2
        exact ⟨hc' _ _ X16.out, hc' _ _ X7.out⟩)
      go_wp2_with fail
      refine wp_region_noPanic ?_
      refine wp_region_held_drew (S := (fun w => w.cell? ⟨gW, oW + (t - 16), none⟩ = some (.int .u32 x16) ∧ w.cell? ⟨gW, oW + (t - 7), none⟩ = some (.int .u32 x7))) (by kernel_rfl) (⟨d16, d7⟩) (fun hHeld => ?_)
      refine wpAnyH_take (i := 0) (v := ?_) (by simp only [List.getElem?_toArray, List.getElem?_cons_succ, List.getElem?_cons_zero]; rfl) (by kernel_rfl) (by kernel_rfl) (by kernel_rfl) (fun _ _ _ h => h) (Or.inl ⟨by rfl, ?_⟩) (by assumption) ?_
      rotate_left
      · (intro w hSw; (try dsimp only at hSw); (try obtain ⟨hS1, hS2⟩ := hSw); go_simp; (try with_reducible rfl))
      (try simp only [Act.put, List.setIfInBounds_toArray, List.set_cons_zero, List.set_cons_succ])
      refine wpAnyH_take (i := 1) (v := ?_) (by simp only [List.getElem?_toArray, List.getElem?_cons_succ, List.getElem?_cons_zero]; rfl) (by kernel_rfl) (by kernel_rfl) (by kernel_rfl) (fun _ _ _ h => h) (Or.inl ⟨by rfl, ?_⟩) (by assumption) ?_
      rotate_left
      · (intro w hSw; (try dsimp only at hSw); (try obtain ⟨hS1, hS2⟩ := hSw); go_simp; (try with_reducible rfl))
      (try simp only [Act.put, List.setIfInBounds_toArray, List.set_cons_zero, List.set_cons_succ])
      refine wpAnyH_take (i := 2) (v := ?_) (by simp only [List.getElem?_toArray, List.getElem?_cons_succ, List.getElem?_cons_zero]; rfl) (by kernel_rfl) (by kernel_rfl) (by kernel_rfl) (fun _ _ _ h => h) (Or.inl ⟨by rfl, ?_⟩) (by assumption) ?_
      rotate_left
      · (intro w hSw; (try dsimp only at hSw); (try obtain ⟨hS1, hS2⟩ := hSw); go_simp; (try with_reducible rfl))
      (try simp only [Act.put, List.setIfInBounds_toArray, List.set_cons_zero, List.set_cons_succ])
      refine wpAnyH_take (i := 3) (v := ?_) (by simp only [List.getElem?_toArray, List.getElem?_cons_succ, List.getElem?_cons_zero]; rfl) (by kernel_rfl) (by kernel_rfl) (by kernel_rfl) (fun _ _ _ h => h) (Or.inl ⟨by rfl, ?_⟩) (by assumption) ?_
      rotate_left
      · (intro w hSw; (try dsimp only at hSw); (try obtain ⟨hS1, hS2⟩ := hSw); go_simp; (try with_reducible rfl))
      (try simp only [Act.put, List.setIfInBounds_toArray, List.set_cons_zero, List.set_cons_succ])
      refine wpAnyH_take (i := 4) (v := ?_) (by simp only [List.getElem?_toArray, List.getElem?_cons_succ, List.getElem?_cons_zero]; rfl) (by kernel_rfl) (by kernel_rfl) (by kernel_rfl) (fun _ _ _ h => h) (Or.inl ⟨by rfl, ?_⟩) (by assumption) ?_
      rotate_left
      · (intro w hSw; (try dsimp only at hSw); (try obtain ⟨hS1, hS2⟩ := hSw); go_simp; (try with_reducible rfl))
      (try simp only [Act.put, List.setIfInBounds_toArray, List.set_cons_zero, List.set_cons_succ])
      refine wpAnyH_take (i := 5) (v := ?_) (by simp only [List.getElem?_toArray, List.getElem?_cons_succ, List.getElem?_cons_zero]; rfl) (by kernel_rfl) (by kernel_rfl) (by kernel_rfl) (fun _ _ _ h => h) (Or.inl ⟨by rfl, ?_⟩) (by assumption) ?_
      rotate_left
      · (intro w hSw; (try dsimp only at hSw); (try obtain ⟨hS1, hS2⟩ := hSw); go_simp; (try with_reducible rfl))
      (try simp only [Act.put, List.setIfInBounds_toArray, List.set_cons_zero, List.set_cons_succ])
      refine wpAnyH_take (i := 6) (v := ?_) (by simp only [List.getElem?_toArray, List.getElem?_cons_succ, List.getElem?_cons_zero]; rfl) (by kernel_rfl) (by kernel_rfl) (by kernel_rfl) (fun _ _ _ h => h) (Or.inl ⟨by rfl, ?_⟩) (by assumption) ?_
      rotate_left
      · (intro w hSw; (try dsimp only at hSw); (try obtain ⟨hS1, hS2⟩ := hSw); go_simp; (try with_reducible rfl))
      (try simp only [Act.put, List.setIfInBounds_toArray, List.set_cons_zero, List.set_cons_succ])
      refine wpAnyH_take (i := 7) (v := ?_) (by simp only [List.getElem?_toArray, List.getElem?_cons_succ, List.getElem?_cons_zero]; rfl) (by kernel_rfl) (by kernel_rfl) (by kernel_rfl) (fun _ _ _ h => h) (Or.inl ⟨by rfl, ?_⟩) (by assumption) ?_
      rotate_left
      · (intro w hSw; (try dsimp only at hSw); (try obtain ⟨hS1, hS2⟩ := hSw); go_simp; (try with_reducible rfl))
      (try simp only [Act.put, List.setIfInBounds_toArray, List.set_cons_zero, List.set_cons_succ])
      refine wpAnyH_take (i := 8) (v := ?_) (by simp only [List.getElem?_toArray, List.getElem?_cons_succ, List.getElem?_cons_zero]; rfl) (by kernel_rfl) (by kernel_rfl) (by kernel_rfl) (fun _ _ _ h => h) (Or.inl ⟨by rfl, ?_⟩) (by assumption) ?_
      rotate_left
      · (intro w hSw; (try dsimp only at hSw); (try obtain ⟨hS1, hS2⟩ := hSw); go_simp; (try with_reducible rfl))
      (try simp only [Act.put, List.setIfInBounds_toArray, List.set_cons_zero, List.set_cons_succ])
      refine wpAnyH_take (i := 9) (v := ?_) (by simp only [List.getElem?_toArray, List.getElem?_cons_succ, List.getElem?_cons_zero]; rfl) (by kernel_rfl) (by kernel_rfl) (by kernel_rfl) (fun _ _ _ h => h) (Or.inl ⟨by rfl, ?_⟩) (by assumption) ?_
      rotate_left
      · (intro w hSw; (try dsimp only at hSw); (try obtain ⟨hS1, hS2⟩ := hSw); go_simp; (try with_reducible rfl))
      (try simp only [Act.put, List.setIfInBounds_toArray, List.set_cons_zero, List.set_cons_succ])
      refine wpAnyH_take (i := 10) (v := ?_) (by simp only [List.getElem?_toArray, List.getElem?_cons_succ, List.getElem?_cons_zero]; rfl) (by kernel_rfl) (by kernel_rfl) (by kernel_rfl) (fun _ _ _ h => h) (Or.inl ⟨by rfl, ?_⟩) (by assumption) ?_
      rotate_left
      · (intro w hSw; (try dsimp only at hSw); (try obtain ⟨hS1, hS2⟩ := hSw); go_simp; (try with_reducible rfl))
      (try simp only [Act.put, List.setIfInBounds_toArray, List.set_cons_zero, List.set_cons_succ])
      refine wpAnyH_take (i := 11) (v := ?_) (by simp only [List.getElem?_toArray, List.getElem?_cons_succ, List.getElem?_cons_zero]; rfl) (by kernel_rfl) (by kernel_rfl) (by kernel_rfl) (fun _ _ _ h => h) (Or.inl ⟨by rfl, ?_⟩) (by assumption) ?_
      rotate_left
      · (intro w hSw; (try dsimp only at hSw); (try obtain ⟨hS1, hS2⟩ := hSw); go_simp; (try with_reducible rfl))
      (try simp only [Act.put, List.setIfInBounds_toArray, List.set_cons_zero, List.set_cons_succ])
      refine wpAnyH_take (i := 12) (v := ?_) (by simp only [List.getElem?_toArray, List.getElem?_cons_succ, List.getElem?_cons_zero]; rfl) (by kernel_rfl) (by kernel_rfl) (by kernel_rfl) (fun _ _ _ h => h) (Or.inl ⟨by rfl, ?_⟩) (by assumption) ?_
      rotate_left
      · (intro w hSw; (try dsimp only at hSw); (try obtain ⟨hS1, hS2⟩ := hSw); go_simp; (try with_reducible rfl))
      (try simp only [Act.put, List.setIfInBounds_toArray, List.set_cons_zero, List.set_cons_succ])
      refine wpAnyH_take (i := 13) (v := ?_) (by simp only [List.getElem?_toArray, List.getElem?_cons_succ, List.getElem?_cons_zero]; rfl) (by kernel_rfl) (by kernel_rfl) (by kernel_rfl) (fun _ _ _ h => h) (Or.inl ⟨by rfl, ?_⟩) (by assumption) ?_
      rotate_left
      · (intro w hSw; (try dsimp only at hSw); (try obtain ⟨hS1, hS2⟩ := hSw); go_simp; (try with_reducible rfl))
      (try simp only [Act.put, List.setIfInBounds_toArray, List.set_cons_zero, List.set_cons_succ])
      refine wpAnyH_take (i := 14) (v := ?_) (by simp only [List.getElem?_toArray, List.getElem?_cons_succ, List.getElem?_cons_zero]; rfl) (by kernel_rfl) (by kernel_rfl) (by kernel_rfl) (fun _ _ _ h => h) (Or.inl ⟨by rfl, ?_⟩) (by assumption) ?_
      rotate_left
      · (intro w hSw; (try dsimp only at hSw); (try obtain ⟨hS1, hS2⟩ := hSw); go_simp; (try with_reducible rfl))
      (try simp only [Act.put, List.setIfInBounds_toArray, List.set_cons_zero, List.set_cons_succ])
      refine wpAnyH_take (i := 15) (v := ?_) (by simp only [List.getElem?_toArray, List.getElem?_cons_succ, List.getElem?_cons_zero]; rfl) (by kernel_rfl) (by kernel_rfl) (by kernel_rfl) (fun _ _ _ h => h) (Or.inl ⟨by rfl, ?_⟩) (by assumption) ?_
      rotate_left
      · (intro w hSw; (try dsimp only at hSw); (try obtain ⟨hS1, hS2⟩ := hSw); go_simp; (try with_reducible rfl))
      (try simp only [Act.put, List.setIfInBounds_toArray, List.set_cons_zero, List.set_cons_succ])
      refine wpAnyH_ready (rs := [16]) (by kernel_rfl) (by simp) ?_
      refine AllReadyH.cons (by simp only [List.getElem?_toArray, List.getElem?_cons_succ, List.getElem?_cons_zero]; rfl) (fun K hK => ?_) AllReadyH.nil
      go_simp

      refine hK.out _ _ ?_ (fun hHeld => ?_)
      · exact ⟨by simpa [World.cell?_alloc_past, hgW] using d16, by simpa [World.cell?_alloc_past, hgW] using d7⟩
      clear hK K
      (try simp only [Act.put, List.setIfInBounds_toArray, List.set_cons_zero, List.set_cons_succ])
      refine wpAnyH_ready (rs := [17]) (by kernel_rfl) (by simp) ?_
      refine AllReadyH.cons (by simp only [List.getElem?_toArray, List.getElem?_cons_succ, List.getElem?_cons_zero]; rfl) (fun K hK => ?_) AllReadyH.nil
      refine operwp_append_lit_keep (w := wr3) (A0 := some ⟨gW, oW, none⟩) (c0 := cW) (n := t) (xs := us (ext ww j)) (C := #[.int .u32 (IntKind.u32.wrap (IntKind.u32.wrap (IntKind.u32.wrap (x16 + XP) + x7) + XQ))]) (m := 1) ?_ (.tmp 156) (.tmp 172) 32 rfl w8.heap.size 24 i7 (.int .u32 0) 4 Tryd.underlying32 hi7 hy0 hy1 hy2 rfl ?_ hbf rfl ?_ ?_ ?_ ?_ ?_ ?_
      · kernel_rfl
      · rfl
      · rfl
      · intro u hu; simp at hu; subst hu; rfl
      · unfold maxLen; omega
      · omega
      · exact hxs
      intro p_v p_w r1 r2 r3 r4
      refine hK.out _ _ ?_ (fun hHeld => ?_)
      · exact hKeep.out p_w r4
      clear hK K
      (try simp only [Act.put, List.setIfInBounds_toArray, List.set_cons_zero, List.set_cons_succ])
      refine wpAnyH_take (i := 18) (v := ?_) (by simp only [List.getElem?_toArray, List.getElem?_cons_succ, List.getElem?_cons_zero]; rfl) (by kernel_rfl) (by kernel_rfl) (by kernel_rfl) (fun _ _ _ h => h) (Or.inl ⟨by rfl, ?_⟩) (by assumption) ?_
      rotate_left
      · (intro w hSw; (try dsimp only at hSw); (try obtain ⟨hS1, hS2⟩ := hSw); go_simp; (try with_reducible rfl))
      (try simp only [Act.put, List.setIfInBounds_toArray, List.set_cons_zero, List.set_cons_succ])
      refine wpAnyH_done (by kernel_rfl) ?_ _
      refine NoPanic.normal ?_
      have hl2 : Laid wr3 w8.heap.size _ p_w p_v (t + 1) _ := ⟨r1, r2, r3⟩
      have hb2' := hl2.below hbf hxs
      have hbf2 := hl2.buf
      clear r1 r2 r3 r4 hl2 z1 z2 z3 z4 y1 y2 y3 y4
      go_wp2_with fail
      go_roundg (48 - (j + 1))
      case measure => have := hM5.out; omega
      case rel =>
        refine ⟨j + 1, rfl, by omega, ?_, hbx.trans hb2', ?_⟩
        · exact congrArg (Value.int .i64) (by have := HTJ.out; omega)
        · have e : us (ext ww (j + 1)) = us (ext ww j) ++ [.int .u32 (nw (ext ww j))] := by rw [hext.out]; simp [us]
          rw [e, HNW3.out, show 16 + (j + 1) = t + 1 by have := HTJ.out; omega]
          simpa [IntKind.wrap_u32, Int.emod_add_emod, Int.add_emod_emod] using hbf2
    · obtain rfl : j = 48 := by omega
      have hdec : decide (((16 + 48 : Nat) : Int) < 64) = false := by decide
      go_wp2_with fail
      exact hexit.out _ _ _ _ _ _ _ _ _ _ _ _ _ _ _ _ _ _ _ _ _ _ _ _ _ _ _ _ _ _ _ _ _ _ _ _ _ _ _ _ _ _ _ _ _ _ _ _ _ _ _ _ _ _ _ _ _ _ _ _ _ _ _ _ _ _ hbx hbf
end Go.Proofs.YtkokbpifjpmhlaaDoor
