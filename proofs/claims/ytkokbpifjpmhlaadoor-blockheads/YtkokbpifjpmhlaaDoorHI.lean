/- A header's number; a word. -/
import Derived.Test.YtkokbpifjpmhlaaDoorHB
namespace Go.Proofs.YtkokbpifjpmhlaaDoor
set_option linter.unusedSimpArgs false
set_option linter.unusedVariables false
open Go.RowKit

set_option maxHeartbeats 1000000 in
set_option maxRecDepth 100000 in
theorem id_any (v : Int) (p r : List Nat) (t b n : Nat) (w : World) (h : IsHd v p r t b n) (ht : TabAt w) :
    Calls Tryd.prog 8 #[.agg (hdC v p r t b n).toArray] w fun e w' => e = .returned (.agg (bys (dg (dg (hdB (uv v) p r t b n)))).toArray) ∧ Below w.heap.size w w' := by
  have HT := Lib.hid ht
  have H := Lib.hid h
  have hl := hdC_len h
  obtain ⟨C, eC⟩ : ∃ C, hdC v p r t b n = C := ⟨_, rfl⟩
  rw [eC] at hl ⊢
  have HCE := Lib.hid eC
  have HSZ := Lib.hid (show (Tryd.prog.info? 26).map (·.size) = some C.length by rw [hl]; exact Tryd.size26)
  obtain ⟨W2, e2⟩ : ∃ W2, W2 = (w.alloc (.cells C.toArray 26)).alloc (.cells ZH 23) := ⟨_, rfl⟩
  have k0 : Blk W2 w.heap.size 26 C.toArray := by rw [e2]; exact heap_alloc2_old w _ _
  have k1 : Blk W2 (w.heap.size + 1) 23 ZH := by rw [e2]; exact heap_alloc2_new w _ _
  have hB2 : Below w.heap.size w W2 := by rw [e2]; exact ((Below.refl _ _).alloc (Nat.le_refl _) _).alloc (by simp) _
  have s2 : W2.heap.size = w.heap.size + 1 + 1 := by rw [e2]; simp
  have HR := Lib.hid k0.range
  have HE2 := Lib.hid e2
  clear ht h eC hl e2 k0
  go_enter Tryd.func8, Tryd.ntmps8
  go_upto_region 1 with (first | (refine wpList_of_wp rfl fun K hK => wp_alloc_arr 23 rfl ZH Tryd.zero23 (hK _ _ ?_)))
  rw [← HE2.out]
  go_wp2_with (first
    | (refine wpList_load_mid rfl 26 (.tmp 1) rfl w.heap.size 0 rfl C _ HR.out Tryd.underlying26 rfl HSZ.out ?_))
  rw [← HCE.out]
  refine (hbytes_any v p r t b n W2 H.out).mono ?_
  rintro e w3 ⟨u3, rfl, bf3, hb3⟩
  obtain ⟨A, c, rfl, hc, hrd⟩ := bf3.slice
  have hcm := bf3.cap_le
  have s3 := hb3.size
  have hB3 := hB2.trans (hb3.mono hB2.size)
  have k3 := k1.below hb3 (by omega)
  have hlt := hdB_lt (uv v) H.out
  rw [HCE.out]
  obtain ⟨BB, eB⟩ : ∃ BB, hdB (uv v) p r t b n = BB := ⟨_, rfl⟩
  rw [eB] at hrd hlt
  have HBB := Lib.hid eB
  clear bf3 hb3 hB2 k1
  go_wp2_with fail
  refine (double_any A 80 c BB _ hrd hlt (by omega) hc hcm (HT.out.below hB3 HT.out.1)).mono ?_
  rintro e w5 ⟨rfl, hb5⟩
  have h3s := hB3.size
  have hB5 := hB3.trans (hb5.mono h3s)
  have bk5 := k3.below hb5 (by omega)
  have hdn := dg_len (dg BB)
  obtain ⟨D2, eD⟩ : ∃ D2, dg (dg BB) = D2 := ⟨_, rfl⟩
  rw [eD] at hdn ⊢
  have hsz : (bys D2).length = 32 := by rw [bys_len]; exact hdn
  have HSZ2 := Lib.hid hsz
  have HTH := Lib.hid (show w5.there (w.heap.size + 1) 0 (bys D2).toArray.size by
    have := bk5.there
    rw [show (bys D2).toArray.size = 32 from hsz]; exact this)
  have HD := Lib.hid eD
  clear hsz hdn hb5 hB3 k3 hrd hlt eB eD
  go_wp2_with (refine wpList_store_mid rfl 23 (.tmp 2) (.tmp 5) rfl (w.heap.size + 1) 0 (bys D2).toArray rfl rfl HTH.out (by rw [show (bys D2).toArray.size = 32 from HSZ2.out]; exact Tryd.size23) (all_oneCell_toArray (bys_one _)) ?_)
  exact bodyPost_ret (results_arr rfl _ _ (w.heap.size + 1) (bys D2) _ rfl (World.rangeAt_setCells_same _ _ _ _ (by simpa using HTH.out)) Tryd.underlying23 rfl (by rw [HSZ2.out]; exact Tryd.size23)) rfl ⟨by rw [HBB.out, HD.out], Below.setCells' hB5 _ _ (by omega) _⟩

theorem lv4 (q : List Nat) (hb : ∀ c ∈ q, c < 256) : M.lv q 4 < 4294967296 := by
  have := M.lv_lt q hb 4
  simpa using this

set_option maxHeartbeats 400000 in
set_option maxRecDepth 100000 in
theorem word_any (A : Option Addr) (c : Nat) (q : List Nat) (w : World) (B : Nat) (hr : Rd w B A 4 (bys q)) (hb : ∀ c ∈ q, c < 256) :
    Calls Tryd.prog 20 #[.slice A 4 c] w fun e w' => e = .returned (.int .u32 (M.lv q 4 : Int)) ∧ w = w' := by
  have h4 := lv4 q hb
  have HL := Lib.hid (little_any A 4 c q w B hr hb (by omega))
  clear hr hb
  go_enter Tryd.func20, Tryd.ntmps20
  go_wp2_with fail
  refine HL.out.mono ?_
  rintro e w' ⟨rfl, rfl⟩
  rw [show min 4 8 = 4 from rfl]
  obtain ⟨x, hx⟩ : ∃ x, M.lv q 4 = x := ⟨_, rfl⟩
  rw [hx] at h4 ⊢
  have HX := Lib.hid hx
  clear hx
  go_wp2_with fail
  go_ret
  exact ⟨by rw [HX.out]; rfl, rfl⟩
end Go.Proofs.YtkokbpifjpmhlaaDoor
