/- The third loop of the reference's Sum. -/
import Derived.Test.YtkokbpifjpmhlaaDoorRL4
import Derived.Test.YtkokbpifjpmhlaaDoorRL5
import Derived.Test.YtkokbpifjpmhlaaDoorRL6
namespace Go.Proofs.YtkokbpifjpmhlaaDoor
set_option linter.unusedSimpArgs false
set_option linter.unusedVariables false
open Go.RowKit

structure RS (w6 wr : World) (s : List Int) : Prop where
  low : Below w6.heap.size w6 wr
  st : Blk wr w6.heap.size 44 (us s).toArray

set_option maxHeartbeats 20000000 in
set_option maxRecDepth 1000000 in
theorem loop3 (e0 e1 e2 e3 e4 e5 e6 e7 e8 e9 e10 e11 e12 e13 e14 e15 e16 e17 e18 e19 e20 e21 e22 e23 e24 e25 e26 e27 e28 e29 e30 e31 e32 e33 e34 e35 e36 e37 e38 e39 e40 e41 e42 e43 e44 e45 e46 e47 e48 e49 e50 e51 e52 e53 e54 e55 e56 e57 e58 e59 e60 e61 e62 e63 e64 e65 e66 e67 e68 e69 e70 e71 e72 e73 e74 e75 e76 e77 e78 e79 e80 e81 e82 e83 e84 e85 e86 e87 e88 e89 e90 e91 e92 e93 e94 e95 e96 e97 e98 e99 e100 e101 e102 e103 e104 e105 e106 e107 e108 e109 e110 e111 e112 e113 e114 e115 e116 e117 e118 e119 e120 e121 e122 e123 e124 e125 e126 e127 e128 e129 e130 e131 e132 e133 e134 e135 e136 e137 e138 e139 e140 e141 e142 e143 e144 e145 e146 e147 e148 e149 e150 e151 e152 e153 e154 e155 e156 e157 e158 e159 e160 e161 e162 e163 e164 e165 e166 e167 e168 e169 e170 e171 e172 e173 e174 e175 e176 e177 e178 e179 e180 e181 e182 e183 e184 e185 e186 e187 e188 e189 e190 e191 e192 e193 e194 e195 e196 e197 e198 e199 e200 e201 e202 e203 e204 e205 e206 e207 e208 e209 e210 e211 e212 e213 e214 e215 e216 e217 e218 e219 e220 e221 e222 e223 e224 e225 e226 e227 e228 e229 e230 e231 e232 e233 e234 e235 e236 e237 e238 e239 e240 e241 e242 e243 e244 e245 e246 e247 e248 e249 e250 e251 e252 e253 e254 e255 e256 e257 e258 e259 e260 e261 e262 e263 e264 e265 e266 e267 e268 e269 e270 e271 e272 e273 e274 e275 e276 e277 e278 e279 e280 e281 e282 e283 e284 e285 e286 e287 e288 e289 e290 e291 e292 e293 e294 e295 e296 e297 e298 e299 e300 e301 e302 e303 e304 e305 e306 e307 e308 e309 e310 e311 e312 e313 e314 e315 e316 e317 : Value) (KK SS : List Int) (ms : List Nat) (AM : Option Addr) (cM C gT : Nat) (w6 wr0 : World) (Q0 : Exit → Act → World → Prop)
    (HKW : Hid (∀ x ∈ KK, W32 x)) (HSW : Hid (∀ x ∈ SS, W32 x)) (HSL : Hid (SS.length = 8)) (HKL : Hid (KK.length = 64))
    (htab : Hid (Blk w6 gT 47 (us (SS ++ KK)).toArray)) (hrM : Rd w6 w6.heap.size AM (64 * C) (bys ms)) (hCI : 64 * (C : Int) ≤ 100000108) (HPL2 : Hid (ms.length = 64 * C)) (HML : Hid (∀ c ∈ ms, c < 256))
    (hR7 : RS w6 wr0 SS)
    (hexit : Hid (∀ (e11 e12 e13 e14 e15 e16 e17 e18 e19 e20 e21 e22 e23 e24 e25 e26 e66 e67 e68 e69 e70 e71 e72 e73 e74 e75 e76 e77 e78 e79 e80 e81 e82 e83 e84 e85 e86 e87 e88 e89 e90 e91 e92 e93 e94 e95 e96 e97 e98 e99 e100 e101 e102 e103 e104 e105 e106 e107 e108 e109 e110 e111 e112 e113 e114 e115 e116 e117 e118 e119 e120 e121 e122 e123 e124 e125 e126 e127 e128 e129 e130 e131 e132 e133 e134 e135 e136 e137 e138 e139 e140 e141 e142 e143 e144 e145 e146 e147 e148 e149 e150 e151 e152 e153 e154 e155 e156 e157 e158 e159 e160 e161 e162 e163 e164 e165 e166 e167 e168 e169 e170 e171 e172 e173 e174 e175 e176 e177 e178 e179 e180 e181 e182 e183 e184 e185 e186 e187 e188 e189 e190 e191 e192 e193 e194 e195 e196 e197 e198 e199 e200 e201 e202 e203 e204 e205 e206 e207 e208 e209 e210 e211 e212 e213 e214 e215 e216 e217 e218 e219 e220 e221 e222 e223 e224 e225 e226 e227 e228 e229 e230 e231 e232 e233 e234 e235 e236 e237 e238 e239 e240 e241 e242 e243 e244 e245 e246 e247 e248 e249 e250 e251 e252 e253 e254 e255 e256 e257 e258 e259 e260 e261 e262 e263 e264 e265 e266 e267 e268 e269 e270 e271 e272 e273 e274 e275 e276 e277 e278 e279 e280 e281 e282 e283 e284 e285 e286 e287 e288 e289 e290 e291 e292 e293 e294 : Value) (wx : World), RS w6 wx (fld KK SS ms C) → Q0 (.exit 4) ⟨(e0 :: e1 :: .pointer (some ⟨gT, 0, none⟩) :: e3 :: e4 :: .slice AM (64 * C) cM :: e6 :: e7 :: e8 :: .pointer (some ⟨w6.heap.size, 0, none⟩) :: .int .i64 (64 * (C : Int)) :: e11 :: e12 :: e13 :: e14 :: e15 :: e16 :: e17 :: e18 :: e19 :: e20 :: e21 :: e22 :: e23 :: e24 :: e25 :: e26 :: e27 :: e28 :: e29 :: e30 :: e31 :: e32 :: e33 :: e34 :: e35 :: e36 :: e37 :: e38 :: e39 :: e40 :: e41 :: e42 :: e43 :: e44 :: e45 :: e46 :: e47 :: e48 :: e49 :: e50 :: e51 :: e52 :: e53 :: e54 :: e55 :: e56 :: e57 :: e58 :: e59 :: e60 :: e61 :: e62 :: e63 :: e64 :: e65 :: e66 :: e67 :: e68 :: e69 :: e70 :: e71 :: e72 :: e73 :: e74 :: e75 :: e76 :: e77 :: e78 :: e79 :: e80 :: e81 :: e82 :: e83 :: e84 :: e85 :: e86 :: e87 :: e88 :: e89 :: e90 :: e91 :: e92 :: e93 :: e94 :: e95 :: e96 :: e97 :: e98 :: e99 :: e100 :: e101 :: e102 :: e103 :: e104 :: e105 :: e106 :: e107 :: e108 :: e109 :: e110 :: e111 :: e112 :: e113 :: e114 :: e115 :: e116 :: e117 :: e118 :: e119 :: e120 :: e121 :: e122 :: e123 :: e124 :: e125 :: e126 :: e127 :: e128 :: e129 :: e130 :: e131 :: e132 :: e133 :: e134 :: e135 :: e136 :: e137 :: e138 :: e139 :: e140 :: e141 :: e142 :: e143 :: e144 :: e145 :: e146 :: e147 :: e148 :: e149 :: e150 :: e151 :: e152 :: e153 :: e154 :: e155 :: e156 :: e157 :: e158 :: e159 :: e160 :: e161 :: e162 :: e163 :: e164 :: e165 :: e166 :: e167 :: e168 :: e169 :: e170 :: e171 :: e172 :: e173 :: e174 :: e175 :: e176 :: e177 :: e178 :: e179 :: e180 :: e181 :: e182 :: e183 :: e184 :: e185 :: e186 :: e187 :: e188 :: e189 :: e190 :: e191 :: e192 :: e193 :: e194 :: e195 :: e196 :: e197 :: e198 :: e199 :: e200 :: e201 :: e202 :: e203 :: e204 :: e205 :: e206 :: e207 :: e208 :: e209 :: e210 :: e211 :: e212 :: e213 :: e214 :: e215 :: e216 :: e217 :: e218 :: e219 :: e220 :: e221 :: e222 :: e223 :: e224 :: e225 :: e226 :: e227 :: e228 :: e229 :: e230 :: e231 :: e232 :: e233 :: e234 :: e235 :: e236 :: e237 :: e238 :: e239 :: e240 :: e241 :: e242 :: e243 :: e244 :: e245 :: e246 :: e247 :: e248 :: e249 :: e250 :: e251 :: e252 :: e253 :: e254 :: e255 :: e256 :: e257 :: e258 :: e259 :: e260 :: e261 :: e262 :: e263 :: e264 :: e265 :: e266 :: e267 :: e268 :: e269 :: e270 :: e271 :: e272 :: e273 :: e274 :: e275 :: e276 :: e277 :: e278 :: e279 :: e280 :: e281 :: e282 :: e283 :: e284 :: e285 :: e286 :: e287 :: e288 :: e289 :: e290 :: e291 :: e292 :: e293 :: e294 :: e295 :: e296 :: e297 :: e298 :: e299 :: e300 :: e301 :: e302 :: e303 :: e304 :: e305 :: e306 :: e307 :: e308 :: e309 :: e310 :: e311 :: e312 :: e313 :: e314 :: e315 :: e316 :: e317 :: []).toArray, []⟩ wx)) :
    Code.wp Tryd.prog (.loop (lp 2)) Q0 ⟨(e0 :: e1 :: .pointer (some ⟨gT, 0, none⟩) :: e3 :: e4 :: .slice AM (64 * C) cM :: e6 :: e7 :: e8 :: .pointer (some ⟨w6.heap.size, 0, none⟩) :: .int .i64 0 :: e11 :: e12 :: e13 :: e14 :: e15 :: e16 :: e17 :: e18 :: e19 :: e20 :: e21 :: e22 :: e23 :: e24 :: e25 :: e26 :: e27 :: e28 :: e29 :: e30 :: e31 :: e32 :: e33 :: e34 :: e35 :: e36 :: e37 :: e38 :: e39 :: e40 :: e41 :: e42 :: e43 :: e44 :: e45 :: e46 :: e47 :: e48 :: e49 :: e50 :: e51 :: e52 :: e53 :: e54 :: e55 :: e56 :: e57 :: e58 :: e59 :: e60 :: e61 :: e62 :: e63 :: e64 :: e65 :: e66 :: e67 :: e68 :: e69 :: e70 :: e71 :: e72 :: e73 :: e74 :: e75 :: e76 :: e77 :: e78 :: e79 :: e80 :: e81 :: e82 :: e83 :: e84 :: e85 :: e86 :: e87 :: e88 :: e89 :: e90 :: e91 :: e92 :: e93 :: e94 :: e95 :: e96 :: e97 :: e98 :: e99 :: e100 :: e101 :: e102 :: e103 :: e104 :: e105 :: e106 :: e107 :: e108 :: e109 :: e110 :: e111 :: e112 :: e113 :: e114 :: e115 :: e116 :: e117 :: e118 :: e119 :: e120 :: e121 :: e122 :: e123 :: e124 :: e125 :: e126 :: e127 :: e128 :: e129 :: e130 :: e131 :: e132 :: e133 :: e134 :: e135 :: e136 :: e137 :: e138 :: e139 :: e140 :: e141 :: e142 :: e143 :: e144 :: e145 :: e146 :: e147 :: e148 :: e149 :: e150 :: e151 :: e152 :: e153 :: e154 :: e155 :: e156 :: e157 :: e158 :: e159 :: e160 :: e161 :: e162 :: e163 :: e164 :: e165 :: e166 :: e167 :: e168 :: e169 :: e170 :: e171 :: e172 :: e173 :: e174 :: e175 :: e176 :: e177 :: e178 :: e179 :: e180 :: e181 :: e182 :: e183 :: e184 :: e185 :: e186 :: e187 :: e188 :: e189 :: e190 :: e191 :: e192 :: e193 :: e194 :: e195 :: e196 :: e197 :: e198 :: e199 :: e200 :: e201 :: e202 :: e203 :: e204 :: e205 :: e206 :: e207 :: e208 :: e209 :: e210 :: e211 :: e212 :: e213 :: e214 :: e215 :: e216 :: e217 :: e218 :: e219 :: e220 :: e221 :: e222 :: e223 :: e224 :: e225 :: e226 :: e227 :: e228 :: e229 :: e230 :: e231 :: e232 :: e233 :: e234 :: e235 :: e236 :: e237 :: e238 :: e239 :: e240 :: e241 :: e242 :: e243 :: e244 :: e245 :: e246 :: e247 :: e248 :: e249 :: e250 :: e251 :: e252 :: e253 :: e254 :: e255 :: e256 :: e257 :: e258 :: e259 :: e260 :: e261 :: e262 :: e263 :: e264 :: e265 :: e266 :: e267 :: e268 :: e269 :: e270 :: e271 :: e272 :: e273 :: e274 :: e275 :: e276 :: e277 :: e278 :: e279 :: e280 :: e281 :: e282 :: e283 :: e284 :: e285 :: e286 :: e287 :: e288 :: e289 :: e290 :: e291 :: e292 :: e293 :: e294 :: e295 :: e296 :: e297 :: e298 :: e299 :: e300 :: e301 :: e302 :: e303 :: e304 :: e305 :: e306 :: e307 :: e308 :: e309 :: e310 :: e311 :: e312 :: e313 :: e314 :: e315 :: e316 :: e317 :: []).toArray, []⟩ wr0 := by
  conv => arg 2; arg 1; whnf
  go_loopg [10] C (fun k v wr => ∃ i, k = C - i ∧ i ≤ C ∧ v = .int .i64 (64 * (i : Int)) ∧ RS w6 wr (fld KK SS ms i))
  case atStart => exact ⟨0, rfl, Nat.zero_le _, rfl, hR7⟩
  case round =>
    clear hR7
    obtain ⟨i, hk, hi, rfl, hR⟩ := hrel
    have hM3 := Lib.hid hk
    clear hk
    obtain ⟨w8, hw8⟩ : ∃ x, x = wr := ⟨_, rfl⟩
    subst hw8
    by_cases hlt : i < C
    · have hlt' : 64 * (i : Int) < 64 * (C : Int) := by omega
      have hnx := Lib.hid (show fld KK SS ms (i + 1) = cmp KK (fld KK SS ms i) ((ms.drop (64 * i)).take 64) from rfl)
      have hTw := Lib.hid (fld_w KK SS ms HSW.out i)
      have hTl := Lib.hid (fld_len KK SS ms HSL.out i)
      have hcb := Lib.hid (show ∀ c ∈ (ms.drop (64 * i)).take 64, c < 256 from fun x hx => HML.out x (List.mem_of_mem_drop (List.mem_of_mem_take hx)))
      have hcat := Lib.hid (show ∀ t, t < 64 → ((ms.drop (64 * i)).take 64).getD t 0 = ms.getD (64 * i + t) 0 from fun t ht => by
        simp [List.getD, List.getElem?_take, ht, List.getElem?_drop])
      generalize fld KK SS ms i = s at *
      generalize (ms.drop (64 * i)).take 64 = cb at *
      have hbf0 : Buf (w8.alloc (.cells #[] 24)) w8.heap.size (.slice (some ⟨w8.heap.size, 0, none⟩) 0 0) 0 (us ((List.range 0).map (be4 cb))) := Buf.new w8 w8.heap.size 24 #[] (0, 0) (Nat.le_refl _) (by unfold maxLen; simp)
      have hb0 : Below w8.heap.size w8 (w8.alloc (.cells #[] 24)) := (Below.refl _ _).alloc (Nat.le_refl _) _
      have h8s := hR.low.size
      have hst := hR.st.lt
      go_wp2_with fail
      refine loop4 _ _ _ _ _ undef _ _ _ _ undef _ undef _ _ _ _ _ _ _ _ _ _ _ _ _ _ _ _ _ _ _ _ _ _ _ _ _ _ _ _ _ _ _ _ _ _ _ _ _ _ _ _ _ _ _ _ _ _ _ _ _ _ _ _ _ _ _ _ _ _ _ _ _ _ _ _ _ _ _ _ _ _ _ _ _ _ _ _ _ _ _ _ _ _ _ _ _ _ _ _ _ _ _ _ _ _ _ _ _ _ _ _ _ _ _ _ _ _ _ _ _ _ _ _ _ _ _ _ _ _ _ _ _ _ _ _ _ _ _ _ _ _ _ _ _ _ _ _ _ _ _ _ _ _ _ _ _ _ _ _ _ _ _ _ _ _ _ _ _ _ _ _ _ _ _ _ _ _ _ _ _ _ _ _ _ _ _ _ _ _ _ _ _ _ _ _ _ _ _ _ _ _ _ _ _ _ _ _ _ _ _ _ _ _ _ _ _ _ _ _ _ _ _ _ _ _ _ _ _ _ _ _ _ _ _ _ _ _ _ _ _ _ _ _ _ _ _ _ _ _ _ _ _ _ _ _ _ _ _ _ _ _ _ _ _ _ _ _ _ _ _ _ _ _ _ _ _ _ _ _ _ _ _ _ _ _ _ _ _ _ _ _ _ _ _ _ _ _ _ _ _ _ _ _ _ _ _ _ _ _ _ _ _ _ _ _ _ cb ms AM cM C i w6.heap.size w8 _ _ (hrM.below hR.low) h8s hlt hCI HPL2 HML hcat hb0 hbf0 (Lib.hid ?_)
      intro e11 e74 e75 e76 e77 e78 e79 e80 e81 e82 e83 e84 e85 e86 e87 e88 e89 e90 e91 e92 e93 e94 e95 e96 e97 e98 e99 e100 e101 e102 e103 e104 e105 e106 e107 e108 e109 e110 e111 wx hbx hbf
      clear hbf0 hb0
      have hbf5 : Buf wx w8.heap.size e11 (16 + 0) (us (ext (ws16 cb) 0)) := hbf
      have hW16 := Lib.hid (ws16_w cb hcb.out)
      have hL16 := Lib.hid (ws16_len cb)
      have hspr := Lib.hid (show ext (ws16 cb) 48 = spr cb from rfl)
      have hP2 := Lib.hid (fun k => show nw (ext (ws16 cb) k) = ((ext (ws16 cb) k).getD (16 + k - 16) 0 + pw ((ext (ws16 cb) k).getD (16 + k - 15) 0) + (ext (ws16 cb) k).getD (16 + k - 7) 0 + qw ((ext (ws16 cb) k).getD (16 + k - 2) 0)) % 4294967296 by
        unfold nw; rw [ext_len, ws16_len])
      generalize ws16 cb = ww at *
      clear hbf
      go_wp2_with fail
      refine loop5 _ _ _ _ _ _ _ _ _ _ _ _ _ undef _ _ _ _ _ _ _ _ _ _ _ _ _ _ _ _ _ _ _ _ _ _ _ _ _ _ _ _ _ _ _ _ _ _ _ _ _ _ _ _ _ _ _ _ _ _ _ _ _ _ _ _ _ _ _ _ _ _ _ _ _ _ _ _ _ _ _ _ _ _ _ _ _ _ _ _ _ _ _ _ _ _ _ _ _ _ _ _ _ _ _ _ _ _ _ _ _ _ _ _ _ _ _ _ _ _ _ _ _ _ _ _ _ _ _ _ _ _ _ _ _ _ _ _ _ _ _ _ _ _ _ _ _ _ _ _ _ _ _ _ _ _ _ _ _ _ _ _ _ _ _ _ _ _ _ _ _ _ _ _ _ _ _ _ _ _ _ _ _ _ _ _ _ _ _ _ _ _ _ _ _ _ _ _ _ _ _ _ _ _ _ _ _ _ _ _ _ _ _ _ _ _ _ _ _ _ _ _ _ _ _ _ _ _ _ _ _ _ _ _ _ _ _ _ _ _ _ _ _ _ _ _ _ _ _ _ _ _ _ _ _ _ _ _ _ _ _ _ _ _ _ _ _ _ _ _ _ _ _ _ _ _ _ _ _ _ _ _ _ _ _ _ _ _ _ _ _ _ _ _ _ _ _ _ _ _ _ _ _ _ _ _ _ _ _ _ _ _ _ _ _ _ _ _ ww w8 _ _ hW16 hL16 hbx hbf5 hP2 (Lib.hid ?_)
      clear hbx hbf5
      intro e11 e14 e15 e112 e113 e114 e115 e116 e117 e118 e119 e120 e121 e122 e123 e124 e125 e126 e127 e128 e129 e130 e131 e132 e133 e134 e135 e136 e137 e138 e139 e140 e141 e142 e143 e144 e145 e146 e147 e148 e149 e150 e151 e152 e153 e154 e155 e156 e157 e158 e159 e160 e161 e162 e163 e164 e165 e166 e167 e168 e169 e170 e171 e172 e173 wy hby hbfy
      rw [hspr.out] at hbfy
      have hslen := Lib.hid (spr_len cb)
      have hsw := Lib.hid (spr_w cb hcb.out)
      have hnx2 := Lib.hid (show fld KK SS ms (i + 1) = addl s (rnd KK (spr cb) s 64) 8 from hnx.out)
      generalize spr cb = ws at *
      obtain ⟨AW, cW, rfl, hcW, hrW⟩ := hbfy.slice
      obtain ⟨gW, oW, eW, hgW, hcW2⟩ := hrW.2 (by omega)
      subst eW
      have hwrd := Lib.hid (show ∀ j, j < 64 → wy.cell? ⟨gW, oW + j, none⟩ = some (.int .u32 (ws.getD j 0)) from fun j hj => hcW2 j _ (us_get ws j (by rw [hslen.out]; exact hj)))
      have hRy : RS w6 wy s := ⟨hR.low.trans (hby.mono h8s), hR.st.below hby hst⟩
      have htaby := Lib.hid (show ∀ j, j < 64 → wy.cell? ⟨gT, 8 + j, none⟩ = some (.int .u32 (KK.getD j 0)) from fun j hj => by
        have hb := htab.out.below hRy.low htab.out.lt
        refine hb.cell (8 + j) _ ?_
        unfold us
        rw [List.map_append, List.getElem?_append_right (by rw [List.length_map, HSL.out]; omega), List.length_map, HSL.out, show 8 + j - 8 = j by omega]
        exact us_get KK j (by rw [HKL.out]; exact hj))
      obtain ⟨a, b, c, d, e, f, g, h, hs8⟩ := eight s hTl.out
      subst hs8
      have q0 := hRy.st.cell 0 _ rfl
      have q1 := hRy.st.cell 1 _ rfl
      have q2 := hRy.st.cell 2 _ rfl
      have q3 := hRy.st.cell 3 _ rfl
      have q4 := hRy.st.cell 4 _ rfl
      have q5 := hRy.st.cell 5 _ rfl
      have q6 := hRy.st.cell 6 _ rfl
      have q7 := hRy.st.cell 7 _ rfl
      clear hR hby hbfy hrW hcW2 hP2 hW16 hL16 hspr hcb hcat hnx
      go_wp2_with fail
      go_quiet (fail)
      have hRz : RS w6 (wy.drewN nq) [a, b, c, d, e, f, g, h] := ⟨Below.drewN' hRy.low nq, hRy.st.drewN nq⟩
      have hwrdz := Lib.hid (show ∀ j, j < 64 → (wy.drewN nq).cell? ⟨gW, oW + j, none⟩ = some (.int .u32 (ws.getD j 0)) from hwrd.out)
      have htabz := Lib.hid (show ∀ j, j < 64 → (wy.drewN nq).cell? ⟨gT, 8 + j, none⟩ = some (.int .u32 (KK.getD j 0)) from htaby.out)
      clear hRy hwrd htaby q0 q1 q2 q3 q4 q5 q6 q7 hst h8s
      generalize wy.drewN nq = wz at *
      go_wp2_with fail
      refine loop6 _ _ undef _ _ _ _ _ _ _ _ undef _ _ _ _ undef undef undef undef undef undef undef undef undef _ _ _ _ _ _ _ _ _ _ _ _ _ _ _ _ _ _ _ _ _ _ _ _ _ _ _ _ _ _ _ _ _ _ _ _ _ _ _ _ _ _ _ _ _ _ _ _ _ _ _ _ _ _ _ _ _ _ _ _ _ _ _ _ _ _ _ _ _ _ _ _ _ _ _ _ _ _ _ _ _ _ _ _ _ _ _ _ _ _ _ _ _ _ _ _ _ _ _ _ _ _ _ _ _ _ _ _ _ _ _ _ _ _ _ _ _ _ _ _ _ _ _ _ _ _ _ _ _ _ _ _ _ _ _ _ _ _ _ _ _ _ _ _ _ _ _ _ _ _ _ _ _ _ _ _ _ _ _ _ _ _ _ _ _ _ _ _ _ _ _ _ _ _ _ _ _ _ _ _ _ _ _ _ _ _ _ _ _ _ _ _ _ _ _ _ _ _ _ _ _ _ _ _ _ _ _ _ _ _ _ _ _ _ _ _ _ _ _ _ _ _ _ _ _ _ _ _ _ _ _ _ _ _ _ _ _ _ _ _ _ _ _ _ _ _ _ _ _ _ _ _ _ _ _ _ _ _ _ _ _ _ _ _ _ _ _ _ _ _ _ _ _ _ _ _ _ _ _ _ _ _ _ _ _ _ _ _ _ _ _ _ _ KK ws [a, b, c, d, e, f, g, h] gT gW oW cW wz _ HKW hsw hTw hTl htabz hwrdz (Lib.hid ?_)
      clear hwrdz htabz
      intro e25 e26 e190 e191 e192 e193 e194 e195 e196 e197 e198 e199 e200 e201 e202 e203 e204 e205 e206 e207 e208 e209 e210 e211 e212 e213 e214 e215 e216 e217 e218 e219 e220 e221 e222 e223 e224 e225 e226 e227 e228 e229 e230 e231 e232 e233 e234 e235 e236 e237 e238 e239 e240 e241 e242 e243 e244 e245 e246 e247 e248 e249 e250 e251 e252 e253 e254 T dk hT
      have hTlen : T.length = 8 := by rw [hT]; exact rnd_len KK ws _ rfl 64
      have hnx3 := Lib.hid (show fld KK SS ms (i + 1) = addl [a, b, c, d, e, f, g, h] T 8 by rw [hT]; exact hnx2.out)
      clear hT hnx2
      obtain ⟨a', b', c', d', e', f', g', h', hT8⟩ := eight T hTlen
      subst hT8
      clear hTlen
      simp only [List.getD_cons_zero, List.getD_cons_succ]
      have hRd : RS w6 (wz.drewN dk) [a, b, c, d, e, f, g, h] := ⟨Below.drewN' hRz.low dk, hRz.st.drewN dk⟩
      clear hRz
      generalize wz.drewN dk = wd at *
      have p0 := hRd.st.cell 0 _ rfl
      have p1 := hRd.st.cell 1 _ rfl
      have p2 := hRd.st.cell 2 _ rfl
      have p3 := hRd.st.cell 3 _ rfl
      have p4 := hRd.st.cell 4 _ rfl
      have p5 := hRd.st.cell 5 _ rfl
      have p6 := hRd.st.cell 6 _ rfl
      have p7 := hRd.st.cell 7 _ rfl
      have z0 := hRd.st.cold 0
      have z1 := hRd.st.cold 1
      have z2 := hRd.st.cold 2
      have z3 := hRd.st.cold 3
      have z4 := hRd.st.cold 4
      have z5 := hRd.st.cold 5
      have z6 := hRd.st.cold 6
      have z7 := hRd.st.cold 7
      go_wp2_with fail
      go_roundg (C - (i + 1))
      case measure => have := hM3.out; omega
      case rel =>
        have s0 := hRd.st.set 0 (.int .u32 ((a + a') % 4294967296))
        have s1 := s0.set 1 (.int .u32 ((b + b') % 4294967296))
        have s2 := s1.set 2 (.int .u32 ((c + c') % 4294967296))
        have s3 := s2.set 3 (.int .u32 ((d + d') % 4294967296))
        have s4 := s3.set 4 (.int .u32 ((e + e') % 4294967296))
        have s5 := s4.set 5 (.int .u32 ((f + f') % 4294967296))
        have s6 := s5.set 6 (.int .u32 ((g + g') % 4294967296))
        have s7 := s6.set 7 (.int .u32 ((h + h') % 4294967296))
        refine ⟨i + 1, rfl, by omega, congrArg (Value.int .i64) (by omega), ((((((((hRd.low.setCell (by simp) _).setCell (by simp) _).setCell (by simp) _).setCell (by simp) _).setCell (by simp) _).setCell (by simp) _).setCell (by simp) _).setCell (by simp) _), ?_⟩
        rw [hnx3.out]
        exact s7
    · obtain rfl : i = C := by omega
      have hdec : decide (64 * (i : Int) < 64 * (i : Int)) = false := by simp
      go_wp2_with fail
      exact hexit.out _ _ _ _ _ _ _ _ _ _ _ _ _ _ _ _ _ _ _ _ _ _ _ _ _ _ _ _ _ _ _ _ _ _ _ _ _ _ _ _ _ _ _ _ _ _ _ _ _ _ _ _ _ _ _ _ _ _ _ _ _ _ _ _ _ _ _ _ _ _ _ _ _ _ _ _ _ _ _ _ _ _ _ _ _ _ _ _ _ _ _ _ _ _ _ _ _ _ _ _ _ _ _ _ _ _ _ _ _ _ _ _ _ _ _ _ _ _ _ _ _ _ _ _ _ _ _ _ _ _ _ _ _ _ _ _ _ _ _ _ _ _ _ _ _ _ _ _ _ _ _ _ _ _ _ _ _ _ _ _ _ _ _ _ _ _ _ _ _ _ _ _ _ _ _ _ _ _ _ _ _ _ _ _ _ _ _ _ _ _ _ _ _ _ _ _ _ _ _ _ _ _ _ _ _ _ _ _ _ _ _ _ _ _ _ _ _ _ _ _ _ _ _ _ _ _ _ _ _ _ _ _ _ _ _ _ _ _ _ _ _ _ _ _ _ _ hR
end Go.Proofs.YtkokbpifjpmhlaaDoor
