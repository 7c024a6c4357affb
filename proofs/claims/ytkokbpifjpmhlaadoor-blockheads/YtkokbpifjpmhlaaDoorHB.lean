/- A header's bytes. -/
import Derived.Test.YtkokbpifjpmhlaaDoorNL
import Derived.Test.YtkokbpifjpmhlaaDoorB5
namespace Go.Proofs.YtkokbpifjpmhlaaDoor
set_option linter.unusedSimpArgs false
set_option linter.unusedVariables false
open Go.RowKit

/-- What stands behind the version in a header. -/
def hdT (p r : List Nat) (t b n : Nat) : List Value := bys p ++ (bys r ++ [.int .u32 (t : Int), .int .u32 (b : Int), .int .u32 (n : Int)])
/-- A header's cells. -/
def hdC (v : Int) (p r : List Nat) (t b n : Nat) : List Value := .int .i32 v :: hdT p r t b n
/-- A header's bytes. -/
def hdB (X : Nat) (p r : List Nat) (t b n : Nat) : List Nat := ((((M.leB X 4 ++ p) ++ r) ++ M.leB t 4) ++ M.leB b 4) ++ M.leB n 4
/-- A version, as a number without sign. -/
def uv (v : Int) : Nat := (v % 18446744073709551616).toNat
structure IsHd (v : Int) (p r : List Nat) (t b n : Nat) : Prop where
  p : IsH p
  r : IsH r
  v0 : -2147483648 ≤ v
  v1 : v ≤ 2147483647
  t : t < 4294967296
  b : b < 4294967296
  n : n < 4294967296
theorem uv_cast (v : Int) : v % 18446744073709551616 = (uv v : Int) := by unfold uv; omega
theorem uv_lt (v : Int) : uv v < 18446744073709551616 := by unfold uv; omega
theorem hdC_len {v : Int} {p r : List Nat} {t b n : Nat} (h : IsHd v p r t b n) : (hdC v p r t b n).length = 68 := by
  simp [hdC, hdT, bys_len, h.p.1, h.r.1]
theorem hdB_len {v : Int} {p r : List Nat} {t b n : Nat} (X : Nat) (h : IsHd v p r t b n) : (hdB X p r t b n).length = 80 := by
  simp [hdB, M.leB_len, h.p.1, h.r.1]
theorem hdB_lt {v : Int} {p r : List Nat} {t b n : Nat} (X : Nat) (h : IsHd v p r t b n) : ∀ c ∈ hdB X p r t b n, c < 256 := by
  intro c hc
  simp only [hdB, List.mem_append] at hc
  rcases hc with ((((hc | hc) | hc) | hc) | hc) | hc
  · exact M.leB_lt _ _ c hc
  · exact h.p.2 c hc
  · exact h.r.2 c hc
  · exact M.leB_lt _ _ c hc
  · exact M.leB_lt _ _ c hc
  · exact M.leB_lt _ _ c hc
theorem Tryd.size26 : (Tryd.prog.info? 26).map (·.size) = some 68 := by kernel_rfl

theorem hdC_at {v : Int} {p r : List Nat} {t b n : Nat} (h : IsHd v p r t b n) :
    (hdC v p r t b n)[0]? = some (.int .i32 v) ∧ (hdC v p r t b n)[65]? = some (.int .u32 t) ∧ (hdC v p r t b n)[66]? = some (.int .u32 b) ∧ (hdC v p r t b n)[67]? = some (.int .u32 n) := by
  have hp : (bys p).length = 32 := by rw [bys_len]; exact h.p.1
  have hr : (bys r).length = 32 := by rw [bys_len]; exact h.r.1
  refine ⟨rfl, ?_, ?_, ?_⟩ <;> simp [hdC, hdT, List.getElem?_append, hp, hr]
theorem hdC_p {v : Int} {p r : List Nat} {t b n : Nat} (h : IsHd v p r t b n) (i : Nat) (u : Value) (hu : (bys p)[i]? = some u) : (hdC v p r t b n)[1 + i]? = some u := by
  have hi : i < (bys p).length := (List.getElem?_eq_some_iff.1 hu).1
  rw [Nat.add_comm]
  simp only [hdC, hdT, List.getElem?_cons_succ]
  rw [List.getElem?_append_left hi]; exact hu
theorem hdC_r {v : Int} {p r : List Nat} {t b n : Nat} (h : IsHd v p r t b n) (i : Nat) (u : Value) (hu : (bys r)[i]? = some u) : (hdC v p r t b n)[33 + i]? = some u := by
  have hi : i < (bys r).length := (List.getElem?_eq_some_iff.1 hu).1
  have hp : (bys p).length = 32 := by rw [bys_len]; exact h.p.1
  rw [show 33 + i = (32 + i) + 1 by omega]
  simp only [hdC, hdT, List.getElem?_cons_succ]
  rw [List.getElem?_append_right (by omega), hp, Nat.add_sub_cancel_left, List.getElem?_append_left hi]; exact hu

theorem kk4 : kk 4 = 4 := by decide
theorem Blk.rdAt {w : World} {g : Nat} {t : TypeId} {C : List Value} (h : Blk w g t C.toArray) (off n : Nat) (l : List Value) (hn : l.length = n) (hl : ∀ i u, l[i]? = some u → C[off + i]? = some u) : Rd w w.heap.size (some ⟨g, off, none⟩) n l :=
  ⟨hn, fun _ => ⟨g, off, rfl, h.lt, fun j u hu => h.cell (off + j) u (hl j u hu)⟩⟩
theorem putL4 (X : Nat) (hX : X < 18446744073709551616) (w : World) (base : Nat) {v : Value} {n : Nat} {xs : List Nat} (hbuf : Buf w base v n (bys xs)) (hn : n ≤ 1000000000) (hbase : base ≤ w.heap.size) :
    Calls Tryd.prog 18 #[v, .int .u64 (X : Int), .int .i64 4] w fun e w' => ∃ v', e = .returned v' ∧ Buf w' base v' (n + 4) (bys (xs ++ M.leB X 4)) ∧ Below base w w' := by
  refine (putLittle_any (X : Int) (by omega) (by omega) 4 w base hbuf hn hbase).mono ?_
  rintro e w' ⟨v', rfl, hl⟩
  have hb := hl.below hbuf hbase
  have h := hl.buf
  rw [kk4, Int.toNat_natCast, ← bys_app] at h
  exact ⟨v', rfl, h, hb⟩

set_option maxHeartbeats 2000000 in
set_option maxRecDepth 100000 in
theorem hbytes_any (v : Int) (p r : List Nat) (t b n : Nat) (w : World) (h : IsHd v p r t b n) :
    Calls Tryd.prog 6 #[.agg (hdC v p r t b n).toArray] w fun e w' => ∃ v', e = .returned v' ∧ Buf w' w.heap.size v' 80 (bys (hdB (uv v) p r t b n)) ∧ Below w.heap.size w w' := by
  obtain ⟨i0, hi5, hz0, hz1, hz2⟩ := info_parts Tryd.info5
  have lp : (bys p).length = 32 := by rw [bys_len]; exact h.p.1
  have lr : (bys r).length = 32 := by rw [bys_len]; exact h.r.1
  have hc := hdC_at h
  have HP := Lib.hid (hdC_p h)
  have HR := Lib.hid (hdC_r h)
  have H := Lib.hid h
  have HX := Lib.hid (uv_lt v)
  obtain ⟨C, eC⟩ : ∃ C, hdC v p r t b n = C := ⟨_, rfl⟩
  rw [eC] at hc HP HR ⊢
  obtain ⟨MC, hMC, hmk⟩ := make128 hi5 hz0 hz1 hz2 80 (by omega) 80 rfl
  obtain ⟨W3, e3⟩ : ∃ W3, W3 = w.alloc (.cells C.toArray 26) := ⟨_, rfl⟩
  have hB3 : Below w.heap.size w W3 := by rw [e3]; exact (Below.refl _ _).alloc (Nat.le_refl _) _
  have s3 : W3.heap.size = w.heap.size + 1 := by rw [e3]; simp
  have k0 : Blk W3 w.heap.size 26 C.toArray := by rw [e3]; exact Blk.new _ _ _
  have hb4 : Below (w.heap.size + 1) W3 (W3.alloc (.cells MC 5)) := (Below.refl _ _).alloc (by omega) _
  have bf0 : Buf (W3.alloc (.cells MC 5)) (w.heap.size + 1) (.slice (some ⟨w.heap.size + 1, 0, none⟩) 0 80) 0 [] := by
    rw [← s3]
    exact Buf.of_own (World.ownsRow_made W3 (base := W3.heap.size) (e := 5) (size := 1) MC 80 (Nat.le_refl _) (by unfold maxLen; omega) (by rw [hMC]))
  have HE3 := Lib.hid e3
  have HC := Lib.hid hc
  have k4 := k0.below hb4 (by omega)
  have hS4 := hb4.size
  have hB4 := hB3.trans (hb4.mono (by omega))
  clear e3 eC hc h k0 hMC hb4 hB3
  go_enter Tryd.func6, Tryd.ntmps6
  go_upto_region 2 with fail
  rw [← HE3.out]
  generalize W3.alloc (.cells MC 5) = w4 at *
  rw [s3] at hS4
  have c0 := k4.cell 0 _ HC.out.1
  have HB4 := Lib.hid hB4
  have hX := HX.out
  clear hmk s3 hB4
  go_wp2_with fail
  rw [IntKind.wrap_u64, uv_cast]
  refine (putL4 (uv v) hX w4 _ (xs := []) bf0 (by omega) hS4).mono ?_
  rintro e w5 ⟨u5, rfl, bf5, hb5⟩
  rw [List.nil_append, Nat.zero_add] at bf5
  have k5 := k4.below hb5 (by omega)
  have hS5 := Nat.le_trans hS4 hb5.size
  have HB5 := Lib.hid (HB4.out.trans (hb5.mono (by omega)))
  have r5 := k5.rdAt 1 32 (bys p) lp HP.out
  clear c0 k4 bf0 hb5 hX
  go_upto_region 3 with fail
  go_wp2_with (at_builtin; refine wpList_append_buf _ rfl (.tmp 10) (.tmp 12) 27 rfl (w.heap.size + 1) 5 i0 (.int .u8 0) 1 Tryd.underlying27 hi5 hz0 hz1 hz2 rfl rfl bf5 rfl r5 (bys_one _) ?b1 ?b2 ?b0 ?next)
  case b1 => unfold maxLen; omega
  case b2 => omega
  case b0 => exact hS5
  case next =>
    intro u6 w6 p1 p2 p3
    have hl6 : Laid w5 (w.heap.size + 1) _ w6 u6 (4 + 32) (bys (M.leB (uv v) 4) ++ bys p) := ⟨p1, p2, p3⟩
    have hb6 := hl6.below bf5 hS5
    have bf6 := hl6.buf
    rw [← bys_app] at bf6
    have k6 := k5.below hb6 (by omega)
    have hS6 := Nat.le_trans hS5 hb6.size
    have HB6 := Lib.hid (HB5.out.trans (hb6.mono (by omega)))
    have r6 := k6.rdAt 33 32 (bys r) lr HR.out
    clear p1 p2 p3 k5 bf5 hb6 hl6 r5
    go_upto_region 4 with fail
    go_wp2_with (at_builtin; refine wpList_append_buf _ rfl (.tmp 14) (.tmp 16) 27 rfl (w.heap.size + 1) 5 i0 (.int .u8 0) 1 Tryd.underlying27 hi5 hz0 hz1 hz2 rfl rfl bf6 rfl r6 (bys_one _) ?b3 ?b4 ?b5 ?next2)
    case b3 => unfold maxLen; omega
    case b4 => omega
    case b5 => exact hS6
    case next2 =>
      intro u7 w7 p1 p2 p3
      have hl7 : Laid w6 (w.heap.size + 1) _ w7 u7 (4 + 32 + 32) (bys (M.leB (uv v) 4 ++ p) ++ bys r) := ⟨p1, p2, p3⟩
      have hb7 := hl7.below bf6 hS6
      have bf7 := hl7.buf
      rw [← bys_app] at bf7
      have k7 := k6.below hb7 (by omega)
      have hS7 := Nat.le_trans hS6 hb7.size
      have HB7 := Lib.hid (HB6.out.trans (hb7.mono (by omega)))
      have c7 := k7.cell 65 _ HC.out.2.1
      have ht := H.out.t
      clear p1 p2 p3 k6 bf6 hb7 hl7 r6
      go_upto_region 5 with fail
      go_wp2_with fail
      refine (putL4 t (by omega) w7 _ bf7 (by omega) hS7).mono ?_
      rintro e w8 ⟨u8, rfl, bf8, hb8⟩
      have k8 := k7.below hb8 (by omega)
      have hS8 := Nat.le_trans hS7 hb8.size
      have HB8 := Lib.hid (HB7.out.trans (hb8.mono (by omega)))
      have c8 := k8.cell 66 _ HC.out.2.2.1
      have ht := H.out.b
      clear k7 bf7 hb8 c7
      go_upto_region 6 with fail
      go_wp2_with fail
      refine (putL4 b (by omega) w8 _ bf8 (by omega) hS8).mono ?_
      rintro e w9 ⟨u9, rfl, bf9, hb9⟩
      have k9 := k8.below hb9 (by omega)
      have hS9 := Nat.le_trans hS8 hb9.size
      have HB9 := Lib.hid (HB8.out.trans (hb9.mono (by omega)))
      have c9 := k9.cell 67 _ HC.out.2.2.2
      have ht := H.out.n
      clear k8 bf8 hb9 c8
      go_upto_region 7 with fail
      go_wp2_with fail
      refine (putL4 n (by omega) w9 _ bf9 (by omega) hS9).mono ?_
      rintro e w10 ⟨u10, rfl, bf10, hb10⟩
      have hfin := HB9.out.trans (hb10.mono (by omega))
      have bfin := bf10.base_le (base' := w.heap.size) (by omega)
      clear k9 bf9 hb10 c9
      go_wp2_with fail
      go_ret
      exact ⟨_, rfl, bfin, hfin⟩
end Go.Proofs.YtkokbpifjpmhlaaDoor
