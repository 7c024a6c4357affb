/- The fourth loop of the reference's Sum. -/
import Derived.Test.YtkokbpifjpmhlaaDoorRL
namespace Go.Proofs.YtkokbpifjpmhlaaDoor
set_option linter.unusedSimpArgs false
set_option linter.unusedVariables false
open Go.RowKit

set_option maxHeartbeats 8000000 in
set_option maxRecDepth 1000000 in
theorem loop4 (e0 e1 e2 e3 e4 e5 e6 e7 e8 e9 e10 e11 e12 e13 e14 e15 e16 e17 e18 e19 e20 e21 e22 e23 e24 e25 e26 e27 e28 e29 e30 e31 e32 e33 e34 e35 e36 e37 e38 e39 e40 e41 e42 e43 e44 e45 e46 e47 e48 e49 e50 e51 e52 e53 e54 e55 e56 e57 e58 e59 e60 e61 e62 e63 e64 e65 e66 e67 e68 e69 e70 e71 e72 e73 e74 e75 e76 e77 e78 e79 e80 e81 e82 e83 e84 e85 e86 e87 e88 e89 e90 e91 e92 e93 e94 e95 e96 e97 e98 e99 e100 e101 e102 e103 e104 e105 e106 e107 e108 e109 e110 e111 e112 e113 e114 e115 e116 e117 e118 e119 e120 e121 e122 e123 e124 e125 e126 e127 e128 e129 e130 e131 e132 e133 e134 e135 e136 e137 e138 e139 e140 e141 e142 e143 e144 e145 e146 e147 e148 e149 e150 e151 e152 e153 e154 e155 e156 e157 e158 e159 e160 e161 e162 e163 e164 e165 e166 e167 e168 e169 e170 e171 e172 e173 e174 e175 e176 e177 e178 e179 e180 e181 e182 e183 e184 e185 e186 e187 e188 e189 e190 e191 e192 e193 e194 e195 e196 e197 e198 e199 e200 e201 e202 e203 e204 e205 e206 e207 e208 e209 e210 e211 e212 e213 e214 e215 e216 e217 e218 e219 e220 e221 e222 e223 e224 e225 e226 e227 e228 e229 e230 e231 e232 e233 e234 e235 e236 e237 e238 e239 e240 e241 e242 e243 e244 e245 e246 e247 e248 e249 e250 e251 e252 e253 e254 e255 e256 e257 e258 e259 e260 e261 e262 e263 e264 e265 e266 e267 e268 e269 e270 e271 e272 e273 e274 e275 e276 e277 e278 e279 e280 e281 e282 e283 e284 e285 e286 e287 e288 e289 e290 e291 e292 e293 e294 e295 e296 e297 e298 e299 e300 e301 e302 e303 e304 e305 e306 e307 e308 e309 e310 e311 e312 e313 e314 e315 e316 e317 : Value) (cb ms : List Nat) (AM : Option Addr) (cM C i B6 : Nat) (w8 wr0 : World) (Q0 : Exit → Act → World → Prop)
    (hmsg : Rd w8 B6 AM (64 * C) (bys ms)) (hB6 : B6 ≤ w8.heap.size) (hlt : i < C) (hCI : 64 * (C : Int) ≤ 100000108) (HPL2 : Hid (ms.length = 64 * C)) (HML : Hid (∀ c ∈ ms, c < 256))
    (hcat : Hid (∀ t, t < 64 → cb.getD t 0 = ms.getD (64 * i + t) 0))
    (hb0 : Below w8.heap.size w8 wr0) (hbf0 : Buf wr0 w8.heap.size e11 0 (us ((List.range 0).map (be4 cb))))
    (hexit : Hid (∀ (e11 e74 e75 e76 e77 e78 e79 e80 e81 e82 e83 e84 e85 e86 e87 e88 e89 e90 e91 e92 e93 e94 e95 e96 e97 e98 e99 e100 e101 e102 e103 e104 e105 e106 e107 e108 e109 e110 e111 : Value) (wx : World), Below w8.heap.size w8 wx → Buf wx w8.heap.size e11 16 (us ((List.range 16).map (be4 cb))) → Q0 (.exit 6) ⟨(e0 :: e1 :: e2 :: e3 :: e4 :: .slice AM (64 * C) cM :: e6 :: e7 :: e8 :: e9 :: .int .i64 (64 * (i : Int)) :: e11 :: .int .i64 (64 * (i : Int) + 64) :: e13 :: e14 :: e15 :: e16 :: e17 :: e18 :: e19 :: e20 :: e21 :: e22 :: e23 :: e24 :: e25 :: e26 :: e27 :: e28 :: e29 :: e30 :: e31 :: e32 :: e33 :: e34 :: e35 :: e36 :: e37 :: e38 :: e39 :: e40 :: e41 :: e42 :: e43 :: e44 :: e45 :: e46 :: e47 :: e48 :: e49 :: e50 :: e51 :: e52 :: e53 :: e54 :: e55 :: e56 :: e57 :: e58 :: e59 :: e60 :: e61 :: e62 :: e63 :: e64 :: e65 :: e66 :: e67 :: e68 :: e69 :: e70 :: e71 :: e72 :: e73 :: e74 :: e75 :: e76 :: e77 :: e78 :: e79 :: e80 :: e81 :: e82 :: e83 :: e84 :: e85 :: e86 :: e87 :: e88 :: e89 :: e90 :: e91 :: e92 :: e93 :: e94 :: e95 :: e96 :: e97 :: e98 :: e99 :: e100 :: e101 :: e102 :: e103 :: e104 :: e105 :: e106 :: e107 :: e108 :: e109 :: e110 :: e111 :: e112 :: e113 :: e114 :: e115 :: e116 :: e117 :: e118 :: e119 :: e120 :: e121 :: e122 :: e123 :: e124 :: e125 :: e126 :: e127 :: e128 :: e129 :: e130 :: e131 :: e132 :: e133 :: e134 :: e135 :: e136 :: e137 :: e138 :: e139 :: e140 :: e141 :: e142 :: e143 :: e144 :: e145 :: e146 :: e147 :: e148 :: e149 :: e150 :: e151 :: e152 :: e153 :: e154 :: e155 :: e156 :: e157 :: e158 :: e159 :: e160 :: e161 :: e162 :: e163 :: e164 :: e165 :: e166 :: e167 :: e168 :: e169 :: e170 :: e171 :: e172 :: e173 :: e174 :: e175 :: e176 :: e177 :: e178 :: e179 :: e180 :: e181 :: e182 :: e183 :: e184 :: e185 :: e186 :: e187 :: e188 :: e189 :: e190 :: e191 :: e192 :: e193 :: e194 :: e195 :: e196 :: e197 :: e198 :: e199 :: e200 :: e201 :: e202 :: e203 :: e204 :: e205 :: e206 :: e207 :: e208 :: e209 :: e210 :: e211 :: e212 :: e213 :: e214 :: e215 :: e216 :: e217 :: e218 :: e219 :: e220 :: e221 :: e222 :: e223 :: e224 :: e225 :: e226 :: e227 :: e228 :: e229 :: e230 :: e231 :: e232 :: e233 :: e234 :: e235 :: e236 :: e237 :: e238 :: e239 :: e240 :: e241 :: e242 :: e243 :: e244 :: e245 :: e246 :: e247 :: e248 :: e249 :: e250 :: e251 :: e252 :: e253 :: e254 :: e255 :: e256 :: e257 :: e258 :: e259 :: e260 :: e261 :: e262 :: e263 :: e264 :: e265 :: e266 :: e267 :: e268 :: e269 :: e270 :: e271 :: e272 :: e273 :: e274 :: e275 :: e276 :: e277 :: e278 :: e279 :: e280 :: e281 :: e282 :: e283 :: e284 :: e285 :: e286 :: e287 :: e288 :: e289 :: e290 :: e291 :: e292 :: e293 :: e294 :: e295 :: e296 :: e297 :: e298 :: e299 :: e300 :: e301 :: e302 :: e303 :: e304 :: e305 :: e306 :: e307 :: e308 :: e309 :: e310 :: e311 :: e312 :: e313 :: e314 :: e315 :: e316 :: e317 :: []).toArray, []⟩ wx)) :
    Code.wp Tryd.prog (.loop (lp 3)) Q0 ⟨(e0 :: e1 :: e2 :: e3 :: e4 :: .slice AM (64 * C) cM :: e6 :: e7 :: e8 :: e9 :: .int .i64 (64 * (i : Int)) :: e11 :: .int .i64 (64 * (i : Int)) :: e13 :: e14 :: e15 :: e16 :: e17 :: e18 :: e19 :: e20 :: e21 :: e22 :: e23 :: e24 :: e25 :: e26 :: e27 :: e28 :: e29 :: e30 :: e31 :: e32 :: e33 :: e34 :: e35 :: e36 :: e37 :: e38 :: e39 :: e40 :: e41 :: e42 :: e43 :: e44 :: e45 :: e46 :: e47 :: e48 :: e49 :: e50 :: e51 :: e52 :: e53 :: e54 :: e55 :: e56 :: e57 :: e58 :: e59 :: e60 :: e61 :: e62 :: e63 :: e64 :: e65 :: e66 :: e67 :: e68 :: e69 :: e70 :: e71 :: e72 :: e73 :: e74 :: e75 :: e76 :: e77 :: e78 :: e79 :: e80 :: e81 :: e82 :: e83 :: e84 :: e85 :: e86 :: e87 :: e88 :: e89 :: e90 :: e91 :: e92 :: e93 :: e94 :: e95 :: e96 :: e97 :: e98 :: e99 :: e100 :: e101 :: e102 :: e103 :: e104 :: e105 :: e106 :: e107 :: e108 :: e109 :: e110 :: e111 :: e112 :: e113 :: e114 :: e115 :: e116 :: e117 :: e118 :: e119 :: e120 :: e121 :: e122 :: e123 :: e124 :: e125 :: e126 :: e127 :: e128 :: e129 :: e130 :: e131 :: e132 :: e133 :: e134 :: e135 :: e136 :: e137 :: e138 :: e139 :: e140 :: e141 :: e142 :: e143 :: e144 :: e145 :: e146 :: e147 :: e148 :: e149 :: e150 :: e151 :: e152 :: e153 :: e154 :: e155 :: e156 :: e157 :: e158 :: e159 :: e160 :: e161 :: e162 :: e163 :: e164 :: e165 :: e166 :: e167 :: e168 :: e169 :: e170 :: e171 :: e172 :: e173 :: e174 :: e175 :: e176 :: e177 :: e178 :: e179 :: e180 :: e181 :: e182 :: e183 :: e184 :: e185 :: e186 :: e187 :: e188 :: e189 :: e190 :: e191 :: e192 :: e193 :: e194 :: e195 :: e196 :: e197 :: e198 :: e199 :: e200 :: e201 :: e202 :: e203 :: e204 :: e205 :: e206 :: e207 :: e208 :: e209 :: e210 :: e211 :: e212 :: e213 :: e214 :: e215 :: e216 :: e217 :: e218 :: e219 :: e220 :: e221 :: e222 :: e223 :: e224 :: e225 :: e226 :: e227 :: e228 :: e229 :: e230 :: e231 :: e232 :: e233 :: e234 :: e235 :: e236 :: e237 :: e238 :: e239 :: e240 :: e241 :: e242 :: e243 :: e244 :: e245 :: e246 :: e247 :: e248 :: e249 :: e250 :: e251 :: e252 :: e253 :: e254 :: e255 :: e256 :: e257 :: e258 :: e259 :: e260 :: e261 :: e262 :: e263 :: e264 :: e265 :: e266 :: e267 :: e268 :: e269 :: e270 :: e271 :: e272 :: e273 :: e274 :: e275 :: e276 :: e277 :: e278 :: e279 :: e280 :: e281 :: e282 :: e283 :: e284 :: e285 :: e286 :: e287 :: e288 :: e289 :: e290 :: e291 :: e292 :: e293 :: e294 :: e295 :: e296 :: e297 :: e298 :: e299 :: e300 :: e301 :: e302 :: e303 :: e304 :: e305 :: e306 :: e307 :: e308 :: e309 :: e310 :: e311 :: e312 :: e313 :: e314 :: e315 :: e316 :: e317 :: []).toArray, []⟩ wr0 := by
  obtain ⟨i7, hi7, hy0, hy1, hy2⟩ := info_parts Tryd.info24
  conv => arg 2; arg 1; whnf
  go_loopg [11, 12] 16 (fun k v vi wr => ∃ j, k = 16 - j ∧ j ≤ 16 ∧ vi = .int .i64 (64 * (i : Int) + 4 * (j : Int)) ∧ Below w8.heap.size w8 wr ∧ Buf wr w8.heap.size v j (us ((List.range j).map (be4 cb))))
  case atStart => exact ⟨0, rfl, Nat.zero_le _, by simp, hb0, hbf0⟩
  case round =>
    clear hbf0 hb0
    obtain ⟨j, hk, hj, rfl, hbx, hbf⟩ := hrel
    have hM4 := Lib.hid hk
    clear hk
    have hxs := hbx.size
    by_cases hlj : j < 16
    · have hmsg2 : Rd wr B6 AM (64 * C) (bys ms) := hmsg.below (hbx.mono hB6)
      obtain ⟨gM, oM, eA, hgM, hcells⟩ := hmsg2.2 (by omega)
      have hb0 := getD_lt HML.out (64 * i + 4 * j)
      have hb1 := getD_lt HML.out (64 * i + 4 * j + 1)
      have hb2 := getD_lt HML.out (64 * i + 4 * j + 2)
      have hb3 := getD_lt HML.out (64 * i + 4 * j + 3)
      have m0 := hcells _ _ (bys_get ms (64 * i + 4 * j) (by rw [HPL2.out]; omega))
      have m1 := hcells _ _ (bys_get ms (64 * i + 4 * j + 1) (by rw [HPL2.out]; omega))
      have m2 := hcells _ _ (bys_get ms (64 * i + 4 * j + 2) (by rw [HPL2.out]; omega))
      have m3 := hcells _ _ (bys_get ms (64 * i + 4 * j + 3) (by rw [HPL2.out]; omega))
      have hbe2 : be4 cb j = (((ms.getD (64 * i + 4 * j) 0 : Nat) : Int) * 16777216 + ((ms.getD (64 * i + 4 * j + 1) 0 : Nat) : Int) * 65536 + ((ms.getD (64 * i + 4 * j + 2) 0 : Nat) : Int) * 256 + ((ms.getD (64 * i + 4 * j + 3) 0 : Nat) : Int)) := by
        unfold be4
        rw [prt_sum, hcat.out _ (by omega), hcat.out _ (by omega), hcat.out _ (by omega), hcat.out _ (by omega)]
        simp only [Nat.add_assoc]
      obtain ⟨q, hq⟩ : ∃ q, q = 64 * i + 4 * j := ⟨_, rfl⟩
      rw [← hq] at m0 m1 m2 m3 hb0 hb1 hb2 hb3 hbe2
      generalize ms.getD q 0 = c0 at *
      generalize ms.getD (q + 1) 0 = c1 at *
      generalize ms.getD (q + 2) 0 = c2 at *
      generalize ms.getD (q + 3) 0 = c3 at *
      have HBE := Lib.hid hbe2
      have hqI : 64 * (i : Int) + 4 * (j : Int) = (q : Int) := by omega
      have HQI := Lib.hid hqI
      have q3 : (q : Int) + 3 < 64 * (C : Int) := by omega
      have q64 : (q : Int) < 64 * (i : Int) + 64 := by omega
      clear hbe2 hcells hmsg2 hq hqI
      rw [HQI.out]
      have z1 := IntWalk.i64_in ((q : Int) + 1) (by omega)
      have z2 := IntWalk.i64_in ((q : Int) + 2) (by omega)
      have z3 := IntWalk.i64_in ((q : Int) + 3) (by omega)
      have y1 : ((q : Int) + 1).toNat = q + 1 := by omega
      have y2 : ((q : Int) + 2).toNat = q + 2 := by omega
      have y3 : ((q : Int) + 3).toNat = q + 3 := by omega
      have x0 : (q : Int) < 64 * (C : Int) := by omega
      have x1 : (q : Int) + 1 < 64 * (C : Int) := by omega
      have x2 : (q : Int) + 2 < 64 * (C : Int) := by omega
      have v1 : (0 : Int) ≤ (q : Int) + 1 := by omega
      have v2 : (0 : Int) ≤ (q : Int) + 2 := by omega
      have v3 : (0 : Int) ≤ (q : Int) + 3 := by omega
      have f0 : IntKind.u32.wrap (c0 : Int) = (c0 : Int) := wraps_32 _ (by omega) (by omega)
      have f1 : IntKind.u32.wrap (c1 : Int) = (c1 : Int) := wraps_32 _ (by omega) (by omega)
      have f2 : IntKind.u32.wrap (c2 : Int) = (c2 : Int) := wraps_32 _ (by omega) (by omega)
      have f3 : IntKind.u32.wrap (c3 : Int) = (c3 : Int) := wraps_32 _ (by omega) (by omega)
      have a0 : IntKind.u32.wrap ((c0 : Int) * 16777216) = (c0 : Int) * 16777216 := wraps_32 _ (by omega) (by omega)
      have a1 : IntKind.u32.wrap ((c1 : Int) * 65536) = (c1 : Int) * 65536 := wraps_32 _ (by omega) (by omega)
      have a2 : IntKind.u32.wrap ((c2 : Int) * 256) = (c2 : Int) * 256 := wraps_32 _ (by omega) (by omega)
      have a3 : IntKind.u32.wrap ((c0 : Int) * 16777216 + (c1 : Int) * 65536) = (c0 : Int) * 16777216 + (c1 : Int) * 65536 := wraps_32 _ (by omega) (by omega)
      have a4 : IntKind.u32.wrap ((c0 : Int) * 16777216 + (c1 : Int) * 65536 + (c2 : Int) * 256) = (c0 : Int) * 16777216 + (c1 : Int) * 65536 + (c2 : Int) * 256 := wraps_32 _ (by omega) (by omega)
      have a5 : IntKind.u32.wrap ((c0 : Int) * 16777216 + (c1 : Int) * 65536 + (c2 : Int) * 256 + (c3 : Int)) = (c0 : Int) * 16777216 + (c1 : Int) * 65536 + (c2 : Int) * 256 + (c3 : Int) := wraps_32 _ (by omega) (by omega)
      subst eA
      have hgM8 : gM < w8.heap.size := by omega
      have hgMx : gM < wr.heap.size := by omega
      go_wp2_with fail
      refine wp_region_noPanic ?_
      refine wp_region_held_drew (S := (fun w => w.cell? ⟨gM, oM + q, none⟩ = some (.int .u8 (c0 : Int)) ∧ w.cell? ⟨gM, oM + (q + 1), none⟩ = some (.int .u8 (c1 : Int)) ∧ w.cell? ⟨gM, oM + (q + 2), none⟩ = some (.int .u8 (c2 : Int)) ∧ w.cell? ⟨gM, oM + (q + 3), none⟩ = some (.int .u8 (c3 : Int)))) (by kernel_rfl) (⟨m0, m1, m2, m3⟩) (fun hHeld => ?_)
      refine wpAnyH_take (i := 0) (v := ?_) (by simp only [List.getElem?_toArray, List.getElem?_cons_succ, List.getElem?_cons_zero]; rfl) (by kernel_rfl) (by kernel_rfl) (by kernel_rfl) (fun _ _ _ h => h) (Or.inl ⟨by rfl, ?_⟩) (by assumption) ?_
      rotate_left
      · (intro w hSw; (try dsimp only at hSw); (try obtain ⟨hS1, hS2, hS3, hS4⟩ := hSw); go_simp; (try with_reducible rfl))
      (try simp only [Act.put, List.setIfInBounds_toArray, List.set_cons_zero, List.set_cons_succ])
      refine wpAnyH_take (i := 1) (v := ?_) (by simp only [List.getElem?_toArray, List.getElem?_cons_succ, List.getElem?_cons_zero]; rfl) (by kernel_rfl) (by kernel_rfl) (by kernel_rfl) (fun _ _ _ h => h) (Or.inl ⟨by rfl, ?_⟩) (by assumption) ?_
      rotate_left
      · (intro w hSw; (try dsimp only at hSw); (try obtain ⟨hS1, hS2, hS3, hS4⟩ := hSw); go_simp; (try with_reducible rfl))
      (try simp only [Act.put, List.setIfInBounds_toArray, List.set_cons_zero, List.set_cons_succ])
      refine wpAnyH_take (i := 2) (v := ?_) (by simp only [List.getElem?_toArray, List.getElem?_cons_succ, List.getElem?_cons_zero]; rfl) (by kernel_rfl) (by kernel_rfl) (by kernel_rfl) (fun _ _ _ h => h) (Or.inl ⟨by rfl, ?_⟩) (by assumption) ?_
      rotate_left
      · (intro w hSw; (try dsimp only at hSw); (try obtain ⟨hS1, hS2, hS3, hS4⟩ := hSw); go_simp; (try with_reducible rfl))
      (try simp only [Act.put, List.setIfInBounds_toArray, List.set_cons_zero, List.set_cons_succ])
      refine wpAnyH_take (i := 3) (v := ?_) (by simp only [List.getElem?_toArray, List.getElem?_cons_succ, List.getElem?_cons_zero]; rfl) (by kernel_rfl) (by kernel_rfl) (by kernel_rfl) (fun _ _ _ h => h) (Or.inl ⟨by rfl, ?_⟩) (by assumption) ?_
      rotate_left
      · (intro w hSw; (try dsimp only at hSw); (try obtain ⟨hS1, hS2, hS3, hS4⟩ := hSw); go_simp; (try with_reducible rfl))
      (try simp only [Act.put, List.setIfInBounds_toArray, List.set_cons_zero, List.set_cons_succ])
      refine wpAnyH_take (i := 4) (v := ?_) (by simp only [List.getElem?_toArray, List.getElem?_cons_succ, List.getElem?_cons_zero]; rfl) (by kernel_rfl) (by kernel_rfl) (by kernel_rfl) (fun _ _ _ h => h) (Or.inl ⟨by rfl, ?_⟩) (by assumption) ?_
      rotate_left
      · (intro w hSw; (try dsimp only at hSw); (try obtain ⟨hS1, hS2, hS3, hS4⟩ := hSw); go_simp; (try with_reducible rfl))
      (try simp only [Act.put, List.setIfInBounds_toArray, List.set_cons_zero, List.set_cons_succ])
      refine wpAnyH_take (i := 5) (v := ?_) (by simp only [List.getElem?_toArray, List.getElem?_cons_succ, List.getElem?_cons_zero]; rfl) (by kernel_rfl) (by kernel_rfl) (by kernel_rfl) (fun _ _ _ h => h) (Or.inl ⟨by rfl, ?_⟩) (by assumption) ?_
      rotate_left
      · (intro w hSw; (try dsimp only at hSw); (try obtain ⟨hS1, hS2, hS3, hS4⟩ := hSw); go_simp; (try with_reducible rfl))
      (try simp only [Act.put, List.setIfInBounds_toArray, List.set_cons_zero, List.set_cons_succ])
      refine wpAnyH_take (i := 6) (v := ?_) (by simp only [List.getElem?_toArray, List.getElem?_cons_succ, List.getElem?_cons_zero]; rfl) (by kernel_rfl) (by kernel_rfl) (by kernel_rfl) (fun _ _ _ h => h) (Or.inl ⟨by rfl, ?_⟩) (by assumption) ?_
      rotate_left
      · (intro w hSw; (try dsimp only at hSw); (try obtain ⟨hS1, hS2, hS3, hS4⟩ := hSw); go_simp; (try with_reducible rfl))
      (try simp only [Act.put, List.setIfInBounds_toArray, List.set_cons_zero, List.set_cons_succ])
      refine wpAnyH_take (i := 7) (v := ?_) (by simp only [List.getElem?_toArray, List.getElem?_cons_succ, List.getElem?_cons_zero]; rfl) (by kernel_rfl) (by kernel_rfl) (by kernel_rfl) (fun _ _ _ h => h) (Or.inl ⟨by rfl, ?_⟩) (by assumption) ?_
      rotate_left
      · (intro w hSw; (try dsimp only at hSw); (try obtain ⟨hS1, hS2, hS3, hS4⟩ := hSw); go_simp; (try with_reducible rfl))
      (try simp only [Act.put, List.setIfInBounds_toArray, List.set_cons_zero, List.set_cons_succ])
      refine wpAnyH_take (i := 8) (v := ?_) (by simp only [List.getElem?_toArray, List.getElem?_cons_succ, List.getElem?_cons_zero]; rfl) (by kernel_rfl) (by kernel_rfl) (by kernel_rfl) (fun _ _ _ h => h) (Or.inl ⟨by rfl, ?_⟩) (by assumption) ?_
      rotate_left
      · (intro w hSw; (try dsimp only at hSw); (try obtain ⟨hS1, hS2, hS3, hS4⟩ := hSw); go_simp; (try with_reducible rfl))
      (try simp only [Act.put, List.setIfInBounds_toArray, List.set_cons_zero, List.set_cons_succ])
      refine wpAnyH_take (i := 9) (v := ?_) (by simp only [List.getElem?_toArray, List.getElem?_cons_succ, List.getElem?_cons_zero]; rfl) (by kernel_rfl) (by kernel_rfl) (by kernel_rfl) (fun _ _ _ h => h) (Or.inl ⟨by rfl, ?_⟩) (by assumption) ?_
      rotate_left
      · (intro w hSw; (try dsimp only at hSw); (try obtain ⟨hS1, hS2, hS3, hS4⟩ := hSw); go_simp; (try with_reducible rfl))
      (try simp only [Act.put, List.setIfInBounds_toArray, List.set_cons_zero, List.set_cons_succ])
      refine wpAnyH_take (i := 10) (v := ?_) (by simp only [List.getElem?_toArray, List.getElem?_cons_succ, List.getElem?_cons_zero]; rfl) (by kernel_rfl) (by kernel_rfl) (by kernel_rfl) (fun _ _ _ h => h) (Or.inl ⟨by rfl, ?_⟩) (by assumption) ?_
      rotate_left
      · (intro w hSw; (try dsimp only at hSw); (try obtain ⟨hS1, hS2, hS3, hS4⟩ := hSw); go_simp; (try with_reducible rfl))
      (try simp only [Act.put, List.setIfInBounds_toArray, List.set_cons_zero, List.set_cons_succ])
      refine wpAnyH_take (i := 11) (v := ?_) (by simp only [List.getElem?_toArray, List.getElem?_cons_succ, List.getElem?_cons_zero]; rfl) (by kernel_rfl) (by kernel_rfl) (by kernel_rfl) (fun _ _ _ h => h) (Or.inl ⟨by rfl, ?_⟩) (by assumption) ?_
      rotate_left
      · (intro w hSw; (try dsimp only at hSw); (try obtain ⟨hS1, hS2, hS3, hS4⟩ := hSw); go_simp; (try with_reducible rfl))
      (try simp only [Act.put, List.setIfInBounds_toArray, List.set_cons_zero, List.set_cons_succ])
      refine wpAnyH_take (i := 12) (v := ?_) (by simp only [List.getElem?_toArray, List.getElem?_cons_succ, List.getElem?_cons_zero]; rfl) (by kernel_rfl) (by kernel_rfl) (by kernel_rfl) (fun _ _ _ h => h) (Or.inl ⟨by rfl, ?_⟩) (by assumption) ?_
      rotate_left
      · (intro w hSw; (try dsimp only at hSw); (try obtain ⟨hS1, hS2, hS3, hS4⟩ := hSw); go_simp; (try with_reducible rfl))
      (try simp only [Act.put, List.setIfInBounds_toArray, List.set_cons_zero, List.set_cons_succ])
      refine wpAnyH_take (i := 13) (v := ?_) (by simp only [List.getElem?_toArray, List.getElem?_cons_succ, List.getElem?_cons_zero]; rfl) (by kernel_rfl) (by kernel_rfl) (by kernel_rfl) (fun _ _ _ h => h) (Or.inl ⟨by rfl, ?_⟩) (by assumption) ?_
      rotate_left
      · (intro w hSw; (try dsimp only at hSw); (try obtain ⟨hS1, hS2, hS3, hS4⟩ := hSw); go_simp; (try with_reducible rfl))
      (try simp only [Act.put, List.setIfInBounds_toArray, List.set_cons_zero, List.set_cons_succ])
      refine wpAnyH_take (i := 14) (v := ?_) (by simp only [List.getElem?_toArray, List.getElem?_cons_succ, List.getElem?_cons_zero]; rfl) (by kernel_rfl) (by kernel_rfl) (by kernel_rfl) (fun _ _ _ h => h) (Or.inl ⟨by rfl, ?_⟩) (by assumption) ?_
      rotate_left
      · (intro w hSw; (try dsimp only at hSw); (try obtain ⟨hS1, hS2, hS3, hS4⟩ := hSw); go_simp; (try with_reducible rfl))
      (try simp only [Act.put, List.setIfInBounds_toArray, List.set_cons_zero, List.set_cons_succ])
      refine wpAnyH_take (i := 15) (v := ?_) (by simp only [List.getElem?_toArray, List.getElem?_cons_succ, List.getElem?_cons_zero]; rfl) (by kernel_rfl) (by kernel_rfl) (by kernel_rfl) (fun _ _ _ h => h) (Or.inl ⟨by rfl, ?_⟩) (by assumption) ?_
      rotate_left
      · (intro w hSw; (try dsimp only at hSw); (try obtain ⟨hS1, hS2, hS3, hS4⟩ := hSw); go_simp; (try with_reducible rfl))
      (try simp only [Act.put, List.setIfInBounds_toArray, List.set_cons_zero, List.set_cons_succ])
      refine wpAnyH_take (i := 16) (v := ?_) (by simp only [List.getElem?_toArray, List.getElem?_cons_succ, List.getElem?_cons_zero]; rfl) (by kernel_rfl) (by kernel_rfl) (by kernel_rfl) (fun _ _ _ h => h) (Or.inl ⟨by rfl, ?_⟩) (by assumption) ?_
      rotate_left
      · (intro w hSw; (try dsimp only at hSw); (try obtain ⟨hS1, hS2, hS3, hS4⟩ := hSw); go_simp; (try with_reducible rfl))
      (try simp only [Act.put, List.setIfInBounds_toArray, List.set_cons_zero, List.set_cons_succ])
      refine wpAnyH_take (i := 17) (v := ?_) (by simp only [List.getElem?_toArray, List.getElem?_cons_succ, List.getElem?_cons_zero]; rfl) (by kernel_rfl) (by kernel_rfl) (by kernel_rfl) (fun _ _ _ h => h) (Or.inl ⟨by rfl, ?_⟩) (by assumption) ?_
      rotate_left
      · (intro w hSw; (try dsimp only at hSw); (try obtain ⟨hS1, hS2, hS3, hS4⟩ := hSw); go_simp; (try with_reducible rfl))
      (try simp only [Act.put, List.setIfInBounds_toArray, List.set_cons_zero, List.set_cons_succ])
      refine wpAnyH_take (i := 18) (v := ?_) (by simp only [List.getElem?_toArray, List.getElem?_cons_succ, List.getElem?_cons_zero]; rfl) (by kernel_rfl) (by kernel_rfl) (by kernel_rfl) (fun _ _ _ h => h) (Or.inl ⟨by rfl, ?_⟩) (by assumption) ?_
      rotate_left
      · (intro w hSw; (try dsimp only at hSw); (try obtain ⟨hS1, hS2, hS3, hS4⟩ := hSw); go_simp; (try with_reducible rfl))
      (try simp only [Act.put, List.setIfInBounds_toArray, List.set_cons_zero, List.set_cons_succ])
      refine wpAnyH_take (i := 19) (v := ?_) (by simp only [List.getElem?_toArray, List.getElem?_cons_succ, List.getElem?_cons_zero]; rfl) (by kernel_rfl) (by kernel_rfl) (by kernel_rfl) (fun _ _ _ h => h) (Or.inl ⟨by rfl, ?_⟩) (by assumption) ?_
      rotate_left
      · (intro w hSw; (try dsimp only at hSw); (try obtain ⟨hS1, hS2, hS3, hS4⟩ := hSw); go_simp; (try with_reducible rfl))
      (try simp only [Act.put, List.setIfInBounds_toArray, List.set_cons_zero, List.set_cons_succ])
      refine wpAnyH_take (i := 20) (v := ?_) (by simp only [List.getElem?_toArray, List.getElem?_cons_succ, List.getElem?_cons_zero]; rfl) (by kernel_rfl) (by kernel_rfl) (by kernel_rfl) (fun _ _ _ h => h) (Or.inl ⟨by rfl, ?_⟩) (by assumption) ?_
      rotate_left
      · (intro w hSw; (try dsimp only at hSw); (try obtain ⟨hS1, hS2, hS3, hS4⟩ := hSw); go_simp; (try with_reducible rfl))
      (try simp only [Act.put, List.setIfInBounds_toArray, List.set_cons_zero, List.set_cons_succ])
      refine wpAnyH_take (i := 21) (v := ?_) (by simp only [List.getElem?_toArray, List.getElem?_cons_succ, List.getElem?_cons_zero]; rfl) (by kernel_rfl) (by kernel_rfl) (by kernel_rfl) (fun _ _ _ h => h) (Or.inl ⟨by rfl, ?_⟩) (by assumption) ?_
      rotate_left
      · (intro w hSw; (try dsimp only at hSw); (try obtain ⟨hS1, hS2, hS3, hS4⟩ := hSw); go_simp; (try with_reducible rfl))
      (try simp only [Act.put, List.setIfInBounds_toArray, List.set_cons_zero, List.set_cons_succ])
      refine wpAnyH_take (i := 22) (v := ?_) (by simp only [List.getElem?_toArray, List.getElem?_cons_succ, List.getElem?_cons_zero]; rfl) (by kernel_rfl) (by kernel_rfl) (by kernel_rfl) (fun _ _ _ h => h) (Or.inl ⟨by rfl, ?_⟩) (by assumption) ?_
      rotate_left
      · (intro w hSw; (try dsimp only at hSw); (try obtain ⟨hS1, hS2, hS3, hS4⟩ := hSw); go_simp; (try with_reducible rfl))
      (try simp only [Act.put, List.setIfInBounds_toArray, List.set_cons_zero, List.set_cons_succ])
      refine wpAnyH_take (i := 23) (v := ?_) (by simp only [List.getElem?_toArray, List.getElem?_cons_succ, List.getElem?_cons_zero]; rfl) (by kernel_rfl) (by kernel_rfl) (by kernel_rfl) (fun _ _ _ h => h) (Or.inl ⟨by rfl, ?_⟩) (by assumption) ?_
      rotate_left
      · (intro w hSw; (try dsimp only at hSw); (try obtain ⟨hS1, hS2, hS3, hS4⟩ := hSw); go_simp; (try with_reducible rfl))
      (try simp only [Act.put, List.setIfInBounds_toArray, List.set_cons_zero, List.set_cons_succ])
      refine wpAnyH_take (i := 24) (v := ?_) (by simp only [List.getElem?_toArray, List.getElem?_cons_succ, List.getElem?_cons_zero]; rfl) (by kernel_rfl) (by kernel_rfl) (by kernel_rfl) (fun _ _ _ h => h) (Or.inl ⟨by rfl, ?_⟩) (by assumption) ?_
      rotate_left
      · (intro w hSw; (try dsimp only at hSw); (try obtain ⟨hS1, hS2, hS3, hS4⟩ := hSw); go_simp; (try with_reducible rfl))
      (try simp only [Act.put, List.setIfInBounds_toArray, List.set_cons_zero, List.set_cons_succ])
      refine wpAnyH_take (i := 25) (v := ?_) (by simp only [List.getElem?_toArray, List.getElem?_cons_succ, List.getElem?_cons_zero]; rfl) (by kernel_rfl) (by kernel_rfl) (by kernel_rfl) (fun _ _ _ h => h) (Or.inl ⟨by rfl, ?_⟩) (by assumption) ?_
      rotate_left
      · (intro w hSw; (try dsimp only at hSw); (try obtain ⟨hS1, hS2, hS3, hS4⟩ := hSw); go_simp; (try with_reducible rfl))
      (try simp only [Act.put, List.setIfInBounds_toArray, List.set_cons_zero, List.set_cons_succ])
      refine wpAnyH_take (i := 26) (v := ?_) (by simp only [List.getElem?_toArray, List.getElem?_cons_succ, List.getElem?_cons_zero]; rfl) (by kernel_rfl) (by kernel_rfl) (by kernel_rfl) (fun _ _ _ h => h) (Or.inl ⟨by rfl, ?_⟩) (by assumption) ?_
      rotate_left
      · (intro w hSw; (try dsimp only at hSw); (try obtain ⟨hS1, hS2, hS3, hS4⟩ := hSw); go_simp; (try with_reducible rfl))
      (try simp only [Act.put, List.setIfInBounds_toArray, List.set_cons_zero, List.set_cons_succ])
      refine wpAnyH_take (i := 27) (v := ?_) (by simp only [List.getElem?_toArray, List.getElem?_cons_succ, List.getElem?_cons_zero]; rfl) (by kernel_rfl) (by kernel_rfl) (by kernel_rfl) (fun _ _ _ h => h) (Or.inl ⟨by rfl, ?_⟩) (by assumption) ?_
      rotate_left
      · (intro w hSw; (try dsimp only at hSw); (try obtain ⟨hS1, hS2, hS3, hS4⟩ := hSw); go_simp; (try with_reducible rfl))
      (try simp only [Act.put, List.setIfInBounds_toArray, List.set_cons_zero, List.set_cons_succ])
      refine wpAnyH_take (i := 28) (v := ?_) (by simp only [List.getElem?_toArray, List.getElem?_cons_succ, List.getElem?_cons_zero]; rfl) (by kernel_rfl) (by kernel_rfl) (by kernel_rfl) (fun _ _ _ h => h) (Or.inl ⟨by rfl, ?_⟩) (by assumption) ?_
      rotate_left
      · (intro w hSw; (try dsimp only at hSw); (try obtain ⟨hS1, hS2, hS3, hS4⟩ := hSw); go_simp; (try with_reducible rfl))
      (try simp only [Act.put, List.setIfInBounds_toArray, List.set_cons_zero, List.set_cons_succ])
      refine wpAnyH_take (i := 29) (v := ?_) (by simp only [List.getElem?_toArray, List.getElem?_cons_succ, List.getElem?_cons_zero]; rfl) (by kernel_rfl) (by kernel_rfl) (by kernel_rfl) (fun _ _ _ h => h) (Or.inl ⟨by rfl, ?_⟩) (by assumption) ?_
      rotate_left
      · (intro w hSw; (try dsimp only at hSw); (try obtain ⟨hS1, hS2, hS3, hS4⟩ := hSw); go_simp; (try with_reducible rfl))
      (try simp only [Act.put, List.setIfInBounds_toArray, List.set_cons_zero, List.set_cons_succ])
      refine wpAnyH_ready (rs := [30]) (by kernel_rfl) (by simp) ?_
      refine AllReadyH.cons (by simp only [List.getElem?_toArray, List.getElem?_cons_succ, List.getElem?_cons_zero]; rfl) (fun K hK => ?_) AllReadyH.nil
      go_simp

      refine hK.out _ _ ?_ (fun hHeld => ?_)
      · exact ⟨by simpa [World.cell?_alloc_past, hgMx] using m0, by simpa [World.cell?_alloc_past, hgMx] using m1, by simpa [World.cell?_alloc_past, hgMx] using m2, by simpa [World.cell?_alloc_past, hgMx] using m3⟩
      clear hK K
      (try simp only [Act.put, List.setIfInBounds_toArray, List.set_cons_zero, List.set_cons_succ])
      refine wpAnyH_ready (rs := [31]) (by kernel_rfl) (by simp) ?_
      refine AllReadyH.cons (by simp only [List.getElem?_toArray, List.getElem?_cons_succ, List.getElem?_cons_zero]; rfl) (fun K hK => ?_) AllReadyH.nil
      refine operwp_append_one_drew (w := wr) (v := u11) (n := j) (xs := us ((List.range j).map (be4 cb))) (u := .int .u32 ((c0 : Int) * 16777216 + (c1 : Int) * 65536 + (c2 : Int) * 256 + (c3 : Int))) ?_ (.tmp 80) (.tmp 110) 32 rfl w8.heap.size 24 i7 (.int .u32 0) 4 Tryd.underlying32 hi7 hy0 hy1 hy2 rfl ?_ hbf ?_ rfl ?_ ?_ ?_ ?_
      · kernel_rfl
      · rfl
      · rfl
      · unfold maxLen; omega
      · omega
      · exact hxs
      intro p_v p_w r1 r2 r3
      refine hK.out _ _ ?_ (fun hHeld => ?_)
      · have hB1 := (Below.refl w8.heap.size wr).grown r2 hxs fun k hk => (hbf.lt k hk).1
        exact ⟨(hB1.cell (by simp only []; omega)).trans m0, (hB1.cell (by simp only []; omega)).trans m1, (hB1.cell (by simp only []; omega)).trans m2, (hB1.cell (by simp only []; omega)).trans m3⟩
      clear hK K
      (try simp only [Act.put, List.setIfInBounds_toArray, List.set_cons_zero, List.set_cons_succ])
      refine wpAnyH_take (i := 32) (v := ?_) (by simp only [List.getElem?_toArray, List.getElem?_cons_succ, List.getElem?_cons_zero]; rfl) (by kernel_rfl) (by kernel_rfl) (by kernel_rfl) (fun _ _ _ h => h) (Or.inl ⟨by rfl, ?_⟩) (by assumption) ?_
      rotate_left
      · (intro w hSw; (try dsimp only at hSw); (try obtain ⟨hS1, hS2, hS3, hS4⟩ := hSw); go_simp; (try with_reducible rfl))
      (try simp only [Act.put, List.setIfInBounds_toArray, List.set_cons_zero, List.set_cons_succ])
      refine wpAnyH_done (by kernel_rfl) ?_ _
      refine NoPanic.normal ?_
      have hl2 : Laid wr w8.heap.size u11 p_w p_v (j + 1) _ := ⟨r1, r2, r3⟩
      have hb2' := hl2.below hbf hxs
      have hbf2 := hl2.buf
      clear r1 r2 r3 hl2 z1 z2 z3 y1 y2 y3 f0 f1 f2 f3 a0 a1 a2 a3 a4 a5
      go_wp2_with fail
      go_roundg (16 - (j + 1))
      case measure => have := hM4.out; omega
      case rel =>
        refine ⟨j + 1, rfl, by omega, ?_, hbx.trans hb2', ?_⟩
        · exact congrArg (Value.int .i64) (by have := HQI.out; omega)
        · rw [List.range_succ, List.map_append]
          have e : us ((List.range j).map (be4 cb) ++ [j].map (be4 cb)) = us ((List.range j).map (be4 cb)) ++ [.int .u32 (be4 cb j)] := by simp [us]
          rw [e, HBE.out]
          exact hbf2
    · obtain rfl : j = 16 := by omega
      have e16 : 64 * (i : Int) + 4 * ((16 : Nat) : Int) = 64 * (i : Int) + 64 := by omega
      rw [e16]
      have hdec : decide (64 * (i : Int) + 64 < 64 * (i : Int) + 64) = false := by simp
      go_wp2_with fail
      exact hexit.out _ _ _ _ _ _ _ _ _ _ _ _ _ _ _ _ _ _ _ _ _ _ _ _ _ _ _ _ _ _ _ _ _ _ _ _ _ _ _ _ hbx hbf
end Go.Proofs.YtkokbpifjpmhlaaDoor
