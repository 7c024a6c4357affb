/- The last loops of the reference's Sum. -/
import Derived.Test.YtkokbpifjpmhlaaDoorRL
namespace Go.Proofs.YtkokbpifjpmhlaaDoor
set_option linter.unusedSimpArgs false
set_option linter.unusedVariables false
open Go.RowKit

/-- The bytes behind i words and k bytes of the next, from its end. -/
def hB (s : List Int) (i k : Nat) : List Nat := (List.range 32).map fun t => if t < 4 * i ∨ (4 * i + 4 - k ≤ t ∧ t < 4 * i + 4) then wb (s.getD (t / 4) 0) (t % 4) else 0
theorem hB_len (s : List Int) (i k : Nat) : (hB s i k).length = 32 := by simp [hB]
theorem hB_zero (s : List Int) (i : Nat) : hB s i 0 = hTo s (4 * i) := by
  unfold hB hTo
  apply List.map_congr_left
  intro t _
  have : (t < 4 * i ∨ (4 * i + 4 - 0 ≤ t ∧ t < 4 * i + 4)) = (t < 4 * i) := by rw [eq_iff_iff]; omega
  simp only [this]
theorem hB_four (s : List Int) (i : Nat) : hB s i 4 = hTo s (4 * (i + 1)) := by
  unfold hB hTo
  apply List.map_congr_left
  intro t _
  have : (t < 4 * i ∨ (4 * i + 4 - 4 ≤ t ∧ t < 4 * i + 4)) = (t < 4 * (i + 1)) := by rw [eq_iff_iff]; omega
  simp only [this]
theorem hB_there (s : List Int) (i k t : Nat) (ht : t < 32) : ∃ u, (bys (hB s i k))[t]? = some u := by
  have : t < (bys (hB s i k)).length := by rw [bys_len, hB_len]; exact ht
  exact ⟨_, List.getElem?_eq_getElem this⟩
theorem hB_set (s : List Int) (i k : Nat) (hi : i < 8) (hk : k < 4) : (bys (hB s i k)).set (4 * i + (3 - k)) (.int .u8 ((wb (s.getD i 0) (3 - k) : Nat) : Int)) = bys (hB s i (k + 1)) := by
  unfold bys
  rw [← List.map_set (f := fun (c : Nat) => Value.int .u8 (c : Int))]
  congr 1
  apply List.ext_getElem (by simp [hB])
  intro t h1 h2
  rw [List.getElem_set]
  by_cases e : 4 * i + (3 - k) = t
  · subst e
    simp only [hB, List.getElem_map, List.getElem_range, if_true]
    rw [if_pos (by omega), show (4 * i + (3 - k)) / 4 = i by omega, show (4 * i + (3 - k)) % 4 = 3 - k by omega]
  · rw [if_neg e]
    simp only [hB, List.getElem_map, List.getElem_range]
    have : (t < 4 * i ∨ (4 * i + 4 - (k + 1) ≤ t ∧ t < 4 * i + 4)) = (t < 4 * i ∨ (4 * i + 4 - k ≤ t ∧ t < 4 * i + 4)) := by rw [eq_iff_iff]; omega
    simp only [this]
theorem wb_rev (x : Int) (k : Nat) (hk : k < 4) : ((wb x (3 - k) : Nat) : Int) = x / 256 ^ k % 256 := by
  rw [wb_cast]
  have : 3 - (3 - k) = k := by omega
  rw [this]
  have e : (2 : Int) ^ (8 * k) = 256 ^ k := by rw [Int.pow_mul]; rfl
  rw [e]

structure HO (w9 wr : World) (s : List Int) (gS gO : Nat) (L : List Nat) : Prop where
  low : Below gO w9 wr
  st : Blk wr gS 44 (us s).toArray
  out : Blk wr gO 22 (bys L).toArray

set_option maxHeartbeats 8000000 in
set_option maxRecDepth 1000000 in
theorem loop7 (e0 e1 e2 e3 e4 e5 e6 e7 e8 e9 e10 e11 e12 e13 e14 e15 e16 e17 e18 e19 e20 e21 e22 e23 e24 e25 e26 e27 e28 e29 e30 e31 e32 e33 e34 e35 e36 e37 e38 e39 e40 e41 e42 e43 e44 e45 e46 e47 e48 e49 e50 e51 e52 e53 e54 e55 e56 e57 e58 e59 e60 e61 e62 e63 e64 e65 e66 e67 e68 e69 e70 e71 e72 e73 e74 e75 e76 e77 e78 e79 e80 e81 e82 e83 e84 e85 e86 e87 e88 e89 e90 e91 e92 e93 e94 e95 e96 e97 e98 e99 e100 e101 e102 e103 e104 e105 e106 e107 e108 e109 e110 e111 e112 e113 e114 e115 e116 e117 e118 e119 e120 e121 e122 e123 e124 e125 e126 e127 e128 e129 e130 e131 e132 e133 e134 e135 e136 e137 e138 e139 e140 e141 e142 e143 e144 e145 e146 e147 e148 e149 e150 e151 e152 e153 e154 e155 e156 e157 e158 e159 e160 e161 e162 e163 e164 e165 e166 e167 e168 e169 e170 e171 e172 e173 e174 e175 e176 e177 e178 e179 e180 e181 e182 e183 e184 e185 e186 e187 e188 e189 e190 e191 e192 e193 e194 e195 e196 e197 e198 e199 e200 e201 e202 e203 e204 e205 e206 e207 e208 e209 e210 e211 e212 e213 e214 e215 e216 e217 e218 e219 e220 e221 e222 e223 e224 e225 e226 e227 e228 e229 e230 e231 e232 e233 e234 e235 e236 e237 e238 e239 e240 e241 e242 e243 e244 e245 e246 e247 e248 e249 e250 e251 e252 e253 e254 e255 e256 e257 e258 e259 e260 e261 e262 e263 e264 e265 e266 e267 e268 e269 e270 e271 e272 e273 e274 e275 e276 e277 e278 e279 e280 e281 e282 e283 e284 e285 e286 e287 e288 e289 e290 e291 e292 e293 e294 e295 e296 e297 e298 e299 e300 e301 e302 e303 e304 e305 e306 e307 e308 e309 e310 e311 e312 e313 e314 e315 e316 e317 : Value) (s : List Int) (gS gO : Nat) (w9 wr0 : World) (Q0 : Exit → Act → World → Prop)
    (HSW : Hid (∀ x ∈ s, W32 x)) (HSL : Hid (s.length = 8)) (hgg : gS < gO) (hH0 : HO w9 wr0 s gS gO (hTo s 0))
    (hexit : Hid (∀ (e29 e30 e296 e297 e298 e299 e300 e301 e302 e303 e304 e305 e306 e307 e308 e309 e310 e311 e312 e313 e314 e315 e316 : Value) (wx : World), HO w9 wx s gS gO (hTo s 32) → Q0 (.exit 12) ⟨(e0 :: e1 :: e2 :: e3 :: e4 :: e5 :: e6 :: e7 :: e8 :: .pointer (some ⟨gS, 0, none⟩) :: e10 :: e11 :: e12 :: e13 :: e14 :: e15 :: e16 :: e17 :: e18 :: e19 :: e20 :: e21 :: e22 :: e23 :: e24 :: e25 :: e26 :: .pointer (some ⟨gO, 0, none⟩) :: .int .i64 8 :: e29 :: e30 :: e31 :: e32 :: e33 :: e34 :: e35 :: e36 :: e37 :: e38 :: e39 :: e40 :: e41 :: e42 :: e43 :: e44 :: e45 :: e46 :: e47 :: e48 :: e49 :: e50 :: e51 :: e52 :: e53 :: e54 :: e55 :: e56 :: e57 :: e58 :: e59 :: e60 :: e61 :: e62 :: e63 :: e64 :: e65 :: e66 :: e67 :: e68 :: e69 :: e70 :: e71 :: e72 :: e73 :: e74 :: e75 :: e76 :: e77 :: e78 :: e79 :: e80 :: e81 :: e82 :: e83 :: e84 :: e85 :: e86 :: e87 :: e88 :: e89 :: e90 :: e91 :: e92 :: e93 :: e94 :: e95 :: e96 :: e97 :: e98 :: e99 :: e100 :: e101 :: e102 :: e103 :: e104 :: e105 :: e106 :: e107 :: e108 :: e109 :: e110 :: e111 :: e112 :: e113 :: e114 :: e115 :: e116 :: e117 :: e118 :: e119 :: e120 :: e121 :: e122 :: e123 :: e124 :: e125 :: e126 :: e127 :: e128 :: e129 :: e130 :: e131 :: e132 :: e133 :: e134 :: e135 :: e136 :: e137 :: e138 :: e139 :: e140 :: e141 :: e142 :: e143 :: e144 :: e145 :: e146 :: e147 :: e148 :: e149 :: e150 :: e151 :: e152 :: e153 :: e154 :: e155 :: e156 :: e157 :: e158 :: e159 :: e160 :: e161 :: e162 :: e163 :: e164 :: e165 :: e166 :: e167 :: e168 :: e169 :: e170 :: e171 :: e172 :: e173 :: e174 :: e175 :: e176 :: e177 :: e178 :: e179 :: e180 :: e181 :: e182 :: e183 :: e184 :: e185 :: e186 :: e187 :: e188 :: e189 :: e190 :: e191 :: e192 :: e193 :: e194 :: e195 :: e196 :: e197 :: e198 :: e199 :: e200 :: e201 :: e202 :: e203 :: e204 :: e205 :: e206 :: e207 :: e208 :: e209 :: e210 :: e211 :: e212 :: e213 :: e214 :: e215 :: e216 :: e217 :: e218 :: e219 :: e220 :: e221 :: e222 :: e223 :: e224 :: e225 :: e226 :: e227 :: e228 :: e229 :: e230 :: e231 :: e232 :: e233 :: e234 :: e235 :: e236 :: e237 :: e238 :: e239 :: e240 :: e241 :: e242 :: e243 :: e244 :: e245 :: e246 :: e247 :: e248 :: e249 :: e250 :: e251 :: e252 :: e253 :: e254 :: e255 :: e256 :: e257 :: e258 :: e259 :: e260 :: e261 :: e262 :: e263 :: e264 :: e265 :: e266 :: e267 :: e268 :: e269 :: e270 :: e271 :: e272 :: e273 :: e274 :: e275 :: e276 :: e277 :: e278 :: e279 :: e280 :: e281 :: e282 :: e283 :: e284 :: e285 :: e286 :: e287 :: e288 :: e289 :: e290 :: e291 :: e292 :: e293 :: e294 :: e295 :: e296 :: e297 :: e298 :: e299 :: e300 :: e301 :: e302 :: e303 :: e304 :: e305 :: e306 :: e307 :: e308 :: e309 :: e310 :: e311 :: e312 :: e313 :: e314 :: e315 :: e316 :: e317 :: []).toArray, []⟩ wx)) :
    Code.wp Tryd.prog (.loop (lp 6)) Q0 ⟨(e0 :: e1 :: e2 :: e3 :: e4 :: e5 :: e6 :: e7 :: e8 :: .pointer (some ⟨gS, 0, none⟩) :: e10 :: e11 :: e12 :: e13 :: e14 :: e15 :: e16 :: e17 :: e18 :: e19 :: e20 :: e21 :: e22 :: e23 :: e24 :: e25 :: e26 :: .pointer (some ⟨gO, 0, none⟩) :: .int .i64 0 :: e29 :: e30 :: e31 :: e32 :: e33 :: e34 :: e35 :: e36 :: e37 :: e38 :: e39 :: e40 :: e41 :: e42 :: e43 :: e44 :: e45 :: e46 :: e47 :: e48 :: e49 :: e50 :: e51 :: e52 :: e53 :: e54 :: e55 :: e56 :: e57 :: e58 :: e59 :: e60 :: e61 :: e62 :: e63 :: e64 :: e65 :: e66 :: e67 :: e68 :: e69 :: e70 :: e71 :: e72 :: e73 :: e74 :: e75 :: e76 :: e77 :: e78 :: e79 :: e80 :: e81 :: e82 :: e83 :: e84 :: e85 :: e86 :: e87 :: e88 :: e89 :: e90 :: e91 :: e92 :: e93 :: e94 :: e95 :: e96 :: e97 :: e98 :: e99 :: e100 :: e101 :: e102 :: e103 :: e104 :: e105 :: e106 :: e107 :: e108 :: e109 :: e110 :: e111 :: e112 :: e113 :: e114 :: e115 :: e116 :: e117 :: e118 :: e119 :: e120 :: e121 :: e122 :: e123 :: e124 :: e125 :: e126 :: e127 :: e128 :: e129 :: e130 :: e131 :: e132 :: e133 :: e134 :: e135 :: e136 :: e137 :: e138 :: e139 :: e140 :: e141 :: e142 :: e143 :: e144 :: e145 :: e146 :: e147 :: e148 :: e149 :: e150 :: e151 :: e152 :: e153 :: e154 :: e155 :: e156 :: e157 :: e158 :: e159 :: e160 :: e161 :: e162 :: e163 :: e164 :: e165 :: e166 :: e167 :: e168 :: e169 :: e170 :: e171 :: e172 :: e173 :: e174 :: e175 :: e176 :: e177 :: e178 :: e179 :: e180 :: e181 :: e182 :: e183 :: e184 :: e185 :: e186 :: e187 :: e188 :: e189 :: e190 :: e191 :: e192 :: e193 :: e194 :: e195 :: e196 :: e197 :: e198 :: e199 :: e200 :: e201 :: e202 :: e203 :: e204 :: e205 :: e206 :: e207 :: e208 :: e209 :: e210 :: e211 :: e212 :: e213 :: e214 :: e215 :: e216 :: e217 :: e218 :: e219 :: e220 :: e221 :: e222 :: e223 :: e224 :: e225 :: e226 :: e227 :: e228 :: e229 :: e230 :: e231 :: e232 :: e233 :: e234 :: e235 :: e236 :: e237 :: e238 :: e239 :: e240 :: e241 :: e242 :: e243 :: e244 :: e245 :: e246 :: e247 :: e248 :: e249 :: e250 :: e251 :: e252 :: e253 :: e254 :: e255 :: e256 :: e257 :: e258 :: e259 :: e260 :: e261 :: e262 :: e263 :: e264 :: e265 :: e266 :: e267 :: e268 :: e269 :: e270 :: e271 :: e272 :: e273 :: e274 :: e275 :: e276 :: e277 :: e278 :: e279 :: e280 :: e281 :: e282 :: e283 :: e284 :: e285 :: e286 :: e287 :: e288 :: e289 :: e290 :: e291 :: e292 :: e293 :: e294 :: e295 :: e296 :: e297 :: e298 :: e299 :: e300 :: e301 :: e302 :: e303 :: e304 :: e305 :: e306 :: e307 :: e308 :: e309 :: e310 :: e311 :: e312 :: e313 :: e314 :: e315 :: e316 :: e317 :: []).toArray, []⟩ wr0 := by
  conv => arg 2; arg 1; whnf
  go_loopg [28] 8 (fun k v wr => ∃ i, k = 8 - i ∧ i ≤ 8 ∧ v = .int .i64 i ∧ HO w9 wr s gS gO (hTo s (4 * i)))
  case atStart => exact ⟨0, rfl, Nat.zero_le _, rfl, hH0⟩
  case round =>
    clear hH0
    obtain ⟨i, hk, hi, rfl, hH⟩ := hrel
    have hM := Lib.hid hk
    clear hk
    by_cases hlt : i < 8
    · have hlt' : (i : Int) < 8 := by omega
      have q1 := hH.st.cell i _ (us_get s i (by rw [HSL.out]; exact hlt))
      have xw := getD_w s HSW.out i
      have hx0 := xw.1
      have hx1 := xw.2
      obtain ⟨xi, EX⟩ : ∃ x, Hid (s.getD i 0 = x) := ⟨_, Lib.hid rfl⟩
      rw [EX.out] at q1 hx0 hx1
      clear xw
      rw [← hB_zero] at hH
      go_wp2_with fail
      go_loopg [29, 30] 4 (fun k vx vj wr => ∃ m, k = 4 - m ∧ m ≤ 4 ∧ vj = .int .i64 (3 - (m : Int)) ∧ vx = .int .u32 (xi / 256 ^ m) ∧ HO w9 wr s gS gO (hB s i m))
      case atStart => exact ⟨0, rfl, Nat.zero_le _, rfl, by simp, hH⟩
      case round =>
        clear hH q1
        obtain ⟨m, hk, hm, rfl, rfl, hH⟩ := hrel
        have hM2 := Lib.hid hk
        clear hk
        by_cases hlm : m < 4
        · have hlm' : decide ((0 : Int) ≤ 3 - (m : Int)) = true := by simp; omega
          obtain ⟨u, hu⟩ := hB_there s i m (4 * i + (3 - m)) (by omega)
          have c1 := hH.out.cell _ u hu
          have c2 := hH.out.cold (4 * i + (3 - m))
          have hset := Lib.hid (hB_set s i m hlt hlm)
          have hwb := Lib.hid (show ((wb (s.getD i 0) (3 - m) : Nat) : Int) = xi / 256 ^ m % 256 by rw [EX.out]; exact wb_rev xi m hlm)
          have hdiv := Lib.hid (show xi / 256 ^ (m + 1) = xi / 256 ^ m / 256 by rw [Int.pow_succ, Int.ediv_ediv_of_nonneg (Int.pow_nonneg (by omega))])
          have hy0 : 0 ≤ xi / 256 ^ m := Int.ediv_nonneg hx0 (Int.pow_nonneg (by omega))
          have hy1 : xi / 256 ^ m ≤ xi := Int.ediv_le_self _ hx0
          have hy2 : xi / 256 ^ m < 4294967296 := by omega
          clear hy1
          generalize xi / 256 ^ m = y at *
          have b3 : 4 * (i : Int) + (3 - (m : Int)) < 32 := by omega
          have b4 : (0 : Int) ≤ 4 * (i : Int) + (3 - (m : Int)) := by omega
          have b5 : (4 * (i : Int) + (3 - (m : Int))).toNat = 4 * i + (3 - m) := by omega
          go_wp2_with fail
          go_roundg (4 - (m + 1))
          case measure => have := hM2.out; omega
          case rel =>
            refine ⟨m + 1, rfl, by omega, congrArg (Value.int .i64) (by omega), by rw [hdiv.out], hH.low.setCell (by simp) _, hH.st.other _ _ (by simp; omega), ?_⟩
            have h1 := hH.out.set (4 * i + (3 - m)) (.int .u8 ((wb (s.getD i 0) (3 - m) : Nat) : Int))
            rw [List.setIfInBounds_toArray, hset.out, hwb.out] at h1
            exact h1
        · obtain rfl : m = 4 := by omega
          have hdec : decide ((0 : Int) ≤ 3 - ((4 : Nat) : Int)) = false := by decide
          rw [hB_four] at hH
          generalize xi / 256 ^ 4 = y at *
          go_wp2_with fail
          go_roundg (8 - (i + 1))
          case measure => have := hM.out; omega
          case rel => exact ⟨i + 1, rfl, by omega, by go_num, hH⟩
    · obtain rfl : i = 8 := by omega
      have hdec : decide (((8 : Nat) : Int) < 8) = false := by decide
      go_wp2_with fail
      exact hexit.out _ _ _ _ _ _ _ _ _ _ _ _ _ _ _ _ _ _ _ _ _ _ _ _ hH
end Go.Proofs.YtkokbpifjpmhlaaDoor
