/- The sixth loop of the reference's Sum. -/
import Derived.Test.YtkokbpifjpmhlaaDoorRL
namespace Go.Proofs.YtkokbpifjpmhlaaDoor
set_option linter.unusedSimpArgs false
set_option linter.unusedVariables false
open Go.RowKit

theorem fin_tx (S C h kj wj : Int) : (h + S + C + kj + wj) % 4294967296 = (h + S + C + (kj + wj) % 4294967296) % 4294967296 := by omega
theorem fin0 (a b c d e f g h kj wj : Int) (hn : bits .xor .u32 IntKind.u32.max e = 4294967295 - e) :
    ((h + sg1 e + bits .xor .u32 (bits .and .u32 e f) (bits .and .u32 (4294967295 - e) g) + kj + wj) % 4294967296 + (sg0 a + maj a b c) % 4294967296) % 4294967296 = (st8 a b c d e f g h ((kj + wj) % 4294967296)).getD 0 0 := by
  show _ = (tx e f g h ((kj + wj) % 4294967296) + ux a b c) % 4294967296
  unfold tx ux chs
  rw [hn, fin_tx]
theorem fin4 (a b c d e f g h kj wj : Int) (hn : bits .xor .u32 IntKind.u32.max e = 4294967295 - e) :
    (d + (h + sg1 e + bits .xor .u32 (bits .and .u32 e f) (bits .and .u32 (4294967295 - e) g) + kj + wj) % 4294967296) % 4294967296 = (st8 a b c d e f g h ((kj + wj) % 4294967296)).getD 4 0 := by
  show _ = (d + tx e f g h ((kj + wj) % 4294967296)) % 4294967296
  unfold tx chs
  rw [hn, fin_tx]
theorem stl_eq (a b c d e f g h x : Int) : stl [a, b, c, d, e, f, g, h] x = st8 a b c d e f g h x := rfl

set_option maxHeartbeats 8000000 in
set_option maxRecDepth 1000000 in
theorem loop6 (e0 e1 e2 e3 e4 e5 e6 e7 e8 e9 e10 e11 e12 e13 e14 e15 e16 e17 e18 e19 e20 e21 e22 e23 e24 e25 e26 e27 e28 e29 e30 e31 e32 e33 e34 e35 e36 e37 e38 e39 e40 e41 e42 e43 e44 e45 e46 e47 e48 e49 e50 e51 e52 e53 e54 e55 e56 e57 e58 e59 e60 e61 e62 e63 e64 e65 e66 e67 e68 e69 e70 e71 e72 e73 e74 e75 e76 e77 e78 e79 e80 e81 e82 e83 e84 e85 e86 e87 e88 e89 e90 e91 e92 e93 e94 e95 e96 e97 e98 e99 e100 e101 e102 e103 e104 e105 e106 e107 e108 e109 e110 e111 e112 e113 e114 e115 e116 e117 e118 e119 e120 e121 e122 e123 e124 e125 e126 e127 e128 e129 e130 e131 e132 e133 e134 e135 e136 e137 e138 e139 e140 e141 e142 e143 e144 e145 e146 e147 e148 e149 e150 e151 e152 e153 e154 e155 e156 e157 e158 e159 e160 e161 e162 e163 e164 e165 e166 e167 e168 e169 e170 e171 e172 e173 e174 e175 e176 e177 e178 e179 e180 e181 e182 e183 e184 e185 e186 e187 e188 e189 e190 e191 e192 e193 e194 e195 e196 e197 e198 e199 e200 e201 e202 e203 e204 e205 e206 e207 e208 e209 e210 e211 e212 e213 e214 e215 e216 e217 e218 e219 e220 e221 e222 e223 e224 e225 e226 e227 e228 e229 e230 e231 e232 e233 e234 e235 e236 e237 e238 e239 e240 e241 e242 e243 e244 e245 e246 e247 e248 e249 e250 e251 e252 e253 e254 e255 e256 e257 e258 e259 e260 e261 e262 e263 e264 e265 e266 e267 e268 e269 e270 e271 e272 e273 e274 e275 e276 e277 e278 e279 e280 e281 e282 e283 e284 e285 e286 e287 e288 e289 e290 e291 e292 e293 e294 e295 e296 e297 e298 e299 e300 e301 e302 e303 e304 e305 e306 e307 e308 e309 e310 e311 e312 e313 e314 e315 e316 e317 : Value) (KK ws s : List Int) (gT gW oW cW : Nat) (wr0 : World) (Q0 : Exit → Act → World → Prop)
    (HKW : Hid (∀ x ∈ KK, W32 x)) (HWW : Hid (∀ x ∈ ws, W32 x)) (HSW : Hid (∀ x ∈ s, W32 x)) (HSL : Hid (s.length = 8))
    (htab : Hid (∀ j, j < 64 → wr0.cell? ⟨gT, 8 + j, none⟩ = some (.int .u32 (KK.getD j 0)))) (hwrd : Hid (∀ j, j < 64 → wr0.cell? ⟨gW, oW + j, none⟩ = some (.int .u32 (ws.getD j 0))))
    (hexit : Hid (∀ (e25 e26 e190 e191 e192 e193 e194 e195 e196 e197 e198 e199 e200 e201 e202 e203 e204 e205 e206 e207 e208 e209 e210 e211 e212 e213 e214 e215 e216 e217 e218 e219 e220 e221 e222 e223 e224 e225 e226 e227 e228 e229 e230 e231 e232 e233 e234 e235 e236 e237 e238 e239 e240 e241 e242 e243 e244 e245 e246 e247 e248 e249 e250 e251 e252 e253 e254 : Value) (T : List Int) (k : Nat), T = rnd KK ws s 64 → Q0 (.exit 10) ⟨(e0 :: e1 :: .pointer (some ⟨gT, 0, none⟩) :: e3 :: e4 :: e5 :: e6 :: e7 :: e8 :: e9 :: e10 :: .slice (some ⟨gW, oW, none⟩) 64 cW :: e12 :: e13 :: e14 :: e15 :: .int .u32 (T.getD 0 0) :: .int .u32 (T.getD 1 0) :: .int .u32 (T.getD 2 0) :: .int .u32 (T.getD 3 0) :: .int .u32 (T.getD 4 0) :: .int .u32 (T.getD 5 0) :: .int .u32 (T.getD 6 0) :: .int .u32 (T.getD 7 0) :: .int .i64 64 :: e25 :: e26 :: e27 :: e28 :: e29 :: e30 :: e31 :: e32 :: e33 :: e34 :: e35 :: e36 :: e37 :: e38 :: e39 :: e40 :: e41 :: e42 :: e43 :: e44 :: e45 :: e46 :: e47 :: e48 :: e49 :: e50 :: e51 :: e52 :: e53 :: e54 :: e55 :: e56 :: e57 :: e58 :: e59 :: e60 :: e61 :: e62 :: e63 :: e64 :: e65 :: e66 :: e67 :: e68 :: e69 :: e70 :: e71 :: e72 :: e73 :: e74 :: e75 :: e76 :: e77 :: e78 :: e79 :: e80 :: e81 :: e82 :: e83 :: e84 :: e85 :: e86 :: e87 :: e88 :: e89 :: e90 :: e91 :: e92 :: e93 :: e94 :: e95 :: e96 :: e97 :: e98 :: e99 :: e100 :: e101 :: e102 :: e103 :: e104 :: e105 :: e106 :: e107 :: e108 :: e109 :: e110 :: e111 :: e112 :: e113 :: e114 :: e115 :: e116 :: e117 :: e118 :: e119 :: e120 :: e121 :: e122 :: e123 :: e124 :: e125 :: e126 :: e127 :: e128 :: e129 :: e130 :: e131 :: e132 :: e133 :: e134 :: e135 :: e136 :: e137 :: e138 :: e139 :: e140 :: e141 :: e142 :: e143 :: e144 :: e145 :: e146 :: e147 :: e148 :: e149 :: e150 :: e151 :: e152 :: e153 :: e154 :: e155 :: e156 :: e157 :: e158 :: e159 :: e160 :: e161 :: e162 :: e163 :: e164 :: e165 :: e166 :: e167 :: e168 :: e169 :: e170 :: e171 :: e172 :: e173 :: e174 :: e175 :: e176 :: e177 :: e178 :: e179 :: e180 :: e181 :: e182 :: e183 :: e184 :: e185 :: e186 :: e187 :: e188 :: e189 :: e190 :: e191 :: e192 :: e193 :: e194 :: e195 :: e196 :: e197 :: e198 :: e199 :: e200 :: e201 :: e202 :: e203 :: e204 :: e205 :: e206 :: e207 :: e208 :: e209 :: e210 :: e211 :: e212 :: e213 :: e214 :: e215 :: e216 :: e217 :: e218 :: e219 :: e220 :: e221 :: e222 :: e223 :: e224 :: e225 :: e226 :: e227 :: e228 :: e229 :: e230 :: e231 :: e232 :: e233 :: e234 :: e235 :: e236 :: e237 :: e238 :: e239 :: e240 :: e241 :: e242 :: e243 :: e244 :: e245 :: e246 :: e247 :: e248 :: e249 :: e250 :: e251 :: e252 :: e253 :: e254 :: e255 :: e256 :: e257 :: e258 :: e259 :: e260 :: e261 :: e262 :: e263 :: e264 :: e265 :: e266 :: e267 :: e268 :: e269 :: e270 :: e271 :: e272 :: e273 :: e274 :: e275 :: e276 :: e277 :: e278 :: e279 :: e280 :: e281 :: e282 :: e283 :: e284 :: e285 :: e286 :: e287 :: e288 :: e289 :: e290 :: e291 :: e292 :: e293 :: e294 :: e295 :: e296 :: e297 :: e298 :: e299 :: e300 :: e301 :: e302 :: e303 :: e304 :: e305 :: e306 :: e307 :: e308 :: e309 :: e310 :: e311 :: e312 :: e313 :: e314 :: e315 :: e316 :: e317 :: []).toArray, []⟩ (wr0.drewN k))) :
    Code.wp Tryd.prog (.loop (lp 5)) Q0 ⟨(e0 :: e1 :: .pointer (some ⟨gT, 0, none⟩) :: e3 :: e4 :: e5 :: e6 :: e7 :: e8 :: e9 :: e10 :: .slice (some ⟨gW, oW, none⟩) 64 cW :: e12 :: e13 :: e14 :: e15 :: .int .u32 (s.getD 0 0) :: .int .u32 (s.getD 1 0) :: .int .u32 (s.getD 2 0) :: .int .u32 (s.getD 3 0) :: .int .u32 (s.getD 4 0) :: .int .u32 (s.getD 5 0) :: .int .u32 (s.getD 6 0) :: .int .u32 (s.getD 7 0) :: .int .i64 0 :: e25 :: e26 :: e27 :: e28 :: e29 :: e30 :: e31 :: e32 :: e33 :: e34 :: e35 :: e36 :: e37 :: e38 :: e39 :: e40 :: e41 :: e42 :: e43 :: e44 :: e45 :: e46 :: e47 :: e48 :: e49 :: e50 :: e51 :: e52 :: e53 :: e54 :: e55 :: e56 :: e57 :: e58 :: e59 :: e60 :: e61 :: e62 :: e63 :: e64 :: e65 :: e66 :: e67 :: e68 :: e69 :: e70 :: e71 :: e72 :: e73 :: e74 :: e75 :: e76 :: e77 :: e78 :: e79 :: e80 :: e81 :: e82 :: e83 :: e84 :: e85 :: e86 :: e87 :: e88 :: e89 :: e90 :: e91 :: e92 :: e93 :: e94 :: e95 :: e96 :: e97 :: e98 :: e99 :: e100 :: e101 :: e102 :: e103 :: e104 :: e105 :: e106 :: e107 :: e108 :: e109 :: e110 :: e111 :: e112 :: e113 :: e114 :: e115 :: e116 :: e117 :: e118 :: e119 :: e120 :: e121 :: e122 :: e123 :: e124 :: e125 :: e126 :: e127 :: e128 :: e129 :: e130 :: e131 :: e132 :: e133 :: e134 :: e135 :: e136 :: e137 :: e138 :: e139 :: e140 :: e141 :: e142 :: e143 :: e144 :: e145 :: e146 :: e147 :: e148 :: e149 :: e150 :: e151 :: e152 :: e153 :: e154 :: e155 :: e156 :: e157 :: e158 :: e159 :: e160 :: e161 :: e162 :: e163 :: e164 :: e165 :: e166 :: e167 :: e168 :: e169 :: e170 :: e171 :: e172 :: e173 :: e174 :: e175 :: e176 :: e177 :: e178 :: e179 :: e180 :: e181 :: e182 :: e183 :: e184 :: e185 :: e186 :: e187 :: e188 :: e189 :: e190 :: e191 :: e192 :: e193 :: e194 :: e195 :: e196 :: e197 :: e198 :: e199 :: e200 :: e201 :: e202 :: e203 :: e204 :: e205 :: e206 :: e207 :: e208 :: e209 :: e210 :: e211 :: e212 :: e213 :: e214 :: e215 :: e216 :: e217 :: e218 :: e219 :: e220 :: e221 :: e222 :: e223 :: e224 :: e225 :: e226 :: e227 :: e228 :: e229 :: e230 :: e231 :: e232 :: e233 :: e234 :: e235 :: e236 :: e237 :: e238 :: e239 :: e240 :: e241 :: e242 :: e243 :: e244 :: e245 :: e246 :: e247 :: e248 :: e249 :: e250 :: e251 :: e252 :: e253 :: e254 :: e255 :: e256 :: e257 :: e258 :: e259 :: e260 :: e261 :: e262 :: e263 :: e264 :: e265 :: e266 :: e267 :: e268 :: e269 :: e270 :: e271 :: e272 :: e273 :: e274 :: e275 :: e276 :: e277 :: e278 :: e279 :: e280 :: e281 :: e282 :: e283 :: e284 :: e285 :: e286 :: e287 :: e288 :: e289 :: e290 :: e291 :: e292 :: e293 :: e294 :: e295 :: e296 :: e297 :: e298 :: e299 :: e300 :: e301 :: e302 :: e303 :: e304 :: e305 :: e306 :: e307 :: e308 :: e309 :: e310 :: e311 :: e312 :: e313 :: e314 :: e315 :: e316 :: e317 :: []).toArray, []⟩ wr0 := by
  conv => arg 2; arg 1; whnf
  go_loopg [16, 17, 18, 19, 20, 21, 22, 23, 24] 64 (fun k v0 v1 v2 v3 v4 v5 v6 v7 vi wr => ∃ (j : Nat) (T : List Int) (dk : Nat), k = 64 - j ∧ j ≤ 64 ∧ vi = .int .i64 j ∧ Hid (T = rnd KK ws s j) ∧ wr = wr0.drewN dk ∧ v0 = .int .u32 (T.getD 0 0) ∧ v1 = .int .u32 (T.getD 1 0) ∧ v2 = .int .u32 (T.getD 2 0) ∧ v3 = .int .u32 (T.getD 3 0) ∧ v4 = .int .u32 (T.getD 4 0) ∧ v5 = .int .u32 (T.getD 5 0) ∧ v6 = .int .u32 (T.getD 6 0) ∧ v7 = .int .u32 (T.getD 7 0))
  case atStart => exact ⟨0, s, 0, rfl, Nat.zero_le _, rfl, Lib.hid rfl, rfl, rfl, rfl, rfl, rfl, rfl, rfl, rfl, rfl⟩
  case round =>
    obtain ⟨j, T, dk, hk, hj, rfl, hT, hw, rfl, rfl, rfl, rfl, rfl, rfl, rfl, rfl⟩ := hrel
    have hM := Lib.hid hk
    clear hk
    by_cases hlt : j < 64
    · have hlt' : (j : Int) < 64 := by omega
      have hTw : ∀ x ∈ T, W32 x := by rw [hT.out]; exact rnd_w KK ws s HSW.out j
      have hTl : T.length = 8 := by rw [hT.out]; exact rnd_len KK ws s HSL.out j
      have hnx := Lib.hid (show rnd KK ws s (j + 1) = stl T ((KK.getD j 0 + ws.getD j 0) % 4294967296) by rw [hT.out]; rfl)
      obtain ⟨a, b, c, d, e, f, g, h, rfl⟩ := eight T hTl
      simp only [List.getD_cons_zero, List.getD_cons_succ]
      have q1 : wr.cell? ⟨gT, 8 + j, none⟩ = some (.int .u32 (KK.getD j 0)) := by rw [hw]; exact htab.out j hlt
      have q2 : wr.cell? ⟨gW, oW + j, none⟩ = some (.int .u32 (ws.getD j 0)) := by rw [hw]; exact hwrd.out j hlt
      have xw := getD_w ws HWW.out j
      have kw := getD_w KK HKW.out j
      have HW := Lib.hid hw
      clear hw
      generalize KK.getD j 0 = kj at *
      generalize ws.getD j 0 = wj at *
      have HA := Lib.hid (hTw a (by simp))
      have HE := Lib.hid (hTw e (by simp))
      have e0 := HE.out.1
      have e1 := HE.out.2
      have hns : IntKind.u32.wrap (4294967295 - e) = 4294967295 - e := wraps_32 _ (by omega) (by omega)
      have HNS := Lib.hid (not_sub e HE.out)
      clear hTw hTl xw kw
      go_wp2_with fail
      go_quiet ((go_at_call 41; first | (with_reducible exact quiet_same (refright6_any _ HE.out _)) | (with_reducible exact quiet_same (refright11_any _ HE.out _)) | (with_reducible exact quiet_same (refright25_any _ HE.out _))))
      have HWN := Lib.hid (show wr.drewN nq = wr0.drewN (dk + nq) by rw [HW.out, World.drewN_drewN])
      generalize wr.drewN nq = wr2 at *
      clear q1 q2
      go_wp2_with fail
      refine (refright2_any _ HA.out _).mono ?_
      rintro ee w' ⟨rfl, rfl⟩
      go_wp2_with fail
      refine (refright13_any _ HA.out _).mono ?_
      rintro ee w' ⟨rfl, rfl⟩
      go_wp2_with fail
      refine (refright22_any _ HA.out _).mono ?_
      rintro ee w' ⟨rfl, rfl⟩
      go_wp2_with fail
      go_roundg (64 - (j + 1))
      case measure => have := hM.out; omega
      case rel =>
        refine ⟨j + 1, st8 a b c d e f g h ((kj + wj) % 4294967296), dk + nq, rfl, by omega, by go_num, Lib.hid hnx.out.symm, HWN.out, ?_, rfl, rfl, rfl, ?_, rfl, rfl, rfl⟩
        · exact congrArg (Value.int .u32) (fin0 a b c d e f g h kj wj HNS.out)
        · exact congrArg (Value.int .u32) (fin4 a b c d e f g h kj wj HNS.out)
    · obtain rfl : j = 64 := by omega
      have hdec : decide (((64 : Nat) : Int) < 64) = false := by decide
      subst hw
      go_wp2_with fail
      exact hexit.out _ _ _ _ _ _ _ _ _ _ _ _ _ _ _ _ _ _ _ _ _ _ _ _ _ _ _ _ _ _ _ _ _ _ _ _ _ _ _ _ _ _ _ _ _ _ _ _ _ _ _ _ _ _ _ _ _ _ _ _ _ _ _ _ _ _ _ T dk hT.out
end Go.Proofs.YtkokbpifjpmhlaaDoor
