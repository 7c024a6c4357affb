/- Walks: (tx.Tx).Id; what does not hang on witnesses. -/
import Derived.Test.YtdppnicbpdjanaaDoorXK
namespace Go.Proofs.YtdppnicbpdjanaaDoor
set_option linter.unusedSimpArgs false
set_option linter.unusedVariables false
open Go.RowKit

/-- The number of a transaction. -/
def idT (t : PTx) : List Nat := dg (dg (layB t false))
theorem idT_len (t : PTx) : (idT t).length = 32 := dg_len _
theorem idT_lt (t : PTx) : ∀ c ∈ idT t, c < 256 := dg_lt _
theorem insB_le : ∀ {l : List TIn}, chkL l = 0 → (∀ x ∈ l, x.id.length = 32) → (l.flatMap inB).length ≤ l.length * 10058
  | [], _, _ => by simp
  | x :: r, h, hi => by
    obtain ⟨h1, h2⟩ := chkL_cons h
    have ih := insB_le h2 (fun y hy => hi y (by simp [hy]))
    have h3 := chkI_no h1
    have h4 := inB_len x (hi x (by simp))
    have h5 := txt_le x.sc
    simp only [List.flatMap_cons, List.length_append, List.length_cons, Nat.succ_mul]
    omega
theorem layF_few {t : PTx} (h : chk t = 0) (hi : ∀ x ∈ t.ins, x.id.length = 32) : (layB t false).length ≤ 100000000 := by
  have k := chk_ok h
  have h1 := insB_le k.ci hi
  have h2 := outs_le t.outs
  have h8 := sumO_few k.co
  have h3 : t.ins.length * 10058 ≤ 1024 * 10058 := Nat.mul_le_mul_right _ k.i1
  have h4 : t.outs.length * 17 ≤ 1024 * 17 := Nat.mul_le_mul_right _ k.o1
  have h9 : t.outs.length * 10000 ≤ 1024 * 10000 := Nat.mul_le_mul_right _ k.o1
  have h5 := compB_le t.ins.length
  have h6 := compB_le t.outs.length
  have h7 : (preB t false).length ≤ 6 := by unfold preB; rw [List.length_append, M.leB_len]; simp
  unfold layB
  simp only [List.length_append, M.leB_len, Bool.false_eq_true, if_false, List.length_nil]
  omega

theorem flat_bare : ∀ l : List TIn, l.flatMap inB = (l.map bare).flatMap inB
  | [] => rfl
  | x :: r => by rw [List.flatMap_cons, List.map_cons, List.flatMap_cons, flat_bare r]; rfl
/-- What is laid without witnesses does not hang on them. -/
theorem lay_bare {t t' : PTx} (hv : t'.ver = t.ver) (hl : t'.lock = t.lock) (ho : t'.outs = t.outs) (hi : t'.ins.map bare = t.ins.map bare) : layB t' false = layB t false := by
  have hn : t'.ins.length = t.ins.length := by have := congrArg List.length hi; simpa using this
  unfold layB preB
  rw [hv, hl, ho, hn, flat_bare t'.ins, hi, ← flat_bare t.ins]
  rfl
def bareT (t : PTx) : PTx := { t with ins := t.ins.map bare }
theorem has_bareT (t : PTx) : hasW (bareT t) = false := by
  unfold hasW bareT
  rw [List.any_eq_false]
  intro x hx
  simp only [List.mem_map] at hx
  obtain ⟨y, _, rfl⟩ := hx
  simp [bare]
theorem bare_bare (l : List TIn) : (l.map bare).map bare = l.map bare := by rw [List.map_map]; rfl
theorem lay_bareT (t : PTx) : layB (bareT t) false = layB t false := lay_bare rfl rfl rfl (bare_bare _)
theorem chkI_bare {x : TIn} (h : chkI x = 0) : chkI (bare x) = 0 := by
  have := chkI_no h
  simp [chkI, bare]
  omega
theorem chkL_bare : ∀ {l : List TIn}, chkL l = 0 → chkL (l.map bare) = 0
  | [], _ => rfl
  | x :: r, h => by
    obtain ⟨h1, h2⟩ := chkL_cons h
    rw [List.map_cons, chkL, if_pos (chkI_bare h1), chkL_bare h2]
theorem chk_bareT {t : PTx} (h : chk t = 0) : chk (bareT t) = 0 := by
  have k := chk_ok h
  have e : (bareT t).ins.length = t.ins.length := by simp [bareT]
  unfold chk
  rw [e, show (bareT t).outs = t.outs from rfl, if_neg (by have := k.i0; have := k.o0; omega), if_neg (by have := k.i1; have := k.o1; omega), show chkL (bareT t).ins = 0 from chkL_bare k.ci, if_neg (by simp), k.co]
  rfl
theorem enc_bareT {t : PTx} (h : chk t = 0) : encE (bareT t) = 0 ∨ encE (bareT t) = 6 := by
  unfold encE
  rw [if_neg (by rw [chk_bareT h]; simp)]
  split
  · exact .inr rfl
  · split
    · exact .inr rfl
    · exact .inl rfl

set_option maxHeartbeats 2000000 in
set_option maxRecDepth 100000 in
theorem id_any (w : World) (t : MTx) (h : TxAt w w.heap.size t) (hN : (layB t.p false).length ≤ 100000000) (ht : TabAt w) :
    Calls Tryd.prog 8 #[t.val] w fun e w' => e = .returned (.agg (bys (idT t.p)).toArray) ∧ Below w.heap.size w w' := by
  have HT := Lib.hid h
  have HTB := Lib.hid ht
  have HNN := Lib.hid hN
  have HPK := Lib.hid h.pok
  obtain ⟨TC, hTC⟩ : ∃ TC : List Value, TC = [.int .i32 t.ver, .slice t.ia t.ins.length t.ic, .slice t.oa t.outs.length t.oc, .int .u32 (t.lock : Int)] := ⟨_, rfl⟩
  have hval : t.val = .agg TC.toArray := by rw [hTC]; rfl
  have hlen : TC.length = 4 := by rw [hTC]; rfl
  have HSZ := Lib.hid (show (Tryd.prog.info? 26).map (·.size) = some TC.length by rw [hlen]; kernel_rfl)
  have HLA : Hid (∀ wx, Below w.heap.size w wx → Calls Tryd.prog 15 #[t.val, .bool false] wx fun e w' => ∃ v', e = .returned v' ∧ Buf w' wx.heap.size v' (layB t.p false).length (bys (layB t.p false)) ∧ Below wx.heap.size wx w') :=
    Lib.hid (fun wx hx => lay_any false wx t ((h.below hx).up hx.size) hN)
  rw [hval] at HLA ⊢
  obtain ⟨W3, e3⟩ : ∃ W3, W3 = w.alloc (.cells TC.toArray 26) := ⟨_, rfl⟩
  have b3 : Below w.heap.size w W3 := by rw [e3]; exact (Below.refl _ _).alloc (Nat.le_refl _) _
  have k3 : Blk W3 w.heap.size 26 TC.toArray := by rw [e3]; exact Blk.new _ _ _
  have s3 : W3.heap.size = w.heap.size + 1 := by rw [e3]; simp
  obtain ⟨W4, e4⟩ : ∃ W4, W4 = W3.alloc (.cells ZH 33) := ⟨_, rfl⟩
  have b4 : Below W3.heap.size W3 W4 := by rw [e4]; exact (Below.refl _ _).alloc (Nat.le_refl _) _
  have k4 : Blk W4 W3.heap.size 33 ZH := by rw [e4]; exact Blk.new _ _ _
  have HS3 := Lib.hid s3
  have hrg : W4.rangeAt w.heap.size 0 TC := rangeAt_below (show W3.rangeAt w.heap.size 0 TC from k3.range) b4 k3.lt
  have HRG := Lib.hid hrg
  have HB4 := Lib.hid (b3.trans (b4.mono b3.size))
  have HK4 := Lib.hid k4
  have HE3 := Lib.hid e3
  have HE4 := Lib.hid e4
  have HDG : Hid (dg (dg (layB t.p false)) = idT t.p) := Lib.hid rfl
  have HB8 := Lib.hid (layB_b8 HPK.out false)
  clear hTC hval hlen h hN ht e3 e4 b3 k3 s3 b4 k4 hrg
  go_enter Tryd.func8, Tryd.ntmps8
  go_upto_region 1 with (show wpList _ _ _ (Oper.mk (some 2) _ _ _ _ _ :: _) _ _; refine wpList_of_wp rfl fun K hK => wp_alloc_arr 33 rfl ZH Tryd.zero33 (hK _ _ ?_))
  rw [← HE3.out, ← HE4.out]
  go_wp2_with (show wpList _ _ _ (Oper.mk (some 3) _ _ _ _ _ :: _) _ _; refine wpList_load_mid rfl 26 (.tmp 1) rfl w.heap.size 0 rfl TC _ HRG.out Tryd.underlying26 rfl HSZ.out ?_)
  refine (HLA.out _ HB4.out).mono ?_
  rintro e w5 ⟨v5, rfl, bf5, b5⟩
  obtain ⟨A, c, rfl, hcl, hrd⟩ := bf5.slice
  have hcm := bf5.cap_le
  have b5' := HB4.out.trans (b5.mono HB4.out.size)
  have HB5 := Lib.hid b5'
  have HK5 := Lib.hid (HK4.out.below b5 HK4.out.lt)
  have HDO := Lib.hid (double_any A (layB t.p false).length c (layB t.p false) w5 hrd HB8.out (by have := HNN.out; omega) hcl hcm (HTB.out.below b5' HTB.out.1))
  rw [HDG.out] at HDO
  generalize (layB t.p false).length = N at *
  clear bf5 hrd hcl hcm b5 b5'
  go_wp2_with fail
  refine HDO.out.mono ?_
  rintro e w6 ⟨rfl, b6⟩
  have HB6 := Lib.hid (HB5.out.trans (b6.mono HB5.out.size))
  have k6 := HK5.out.below b6 HK5.out.lt
  have hsz : (bys (idT t.p)).length = 32 := by rw [bys_len]; exact idT_len _
  have HSZ2 := Lib.hid hsz
  have HTH := Lib.hid (show w6.there W3.heap.size 0 (bys (idT t.p)).toArray.size by
    have := k6.there
    rw [show (bys (idT t.p)).toArray.size = 32 from hsz]; exact this)
  clear hsz k6 b6
  generalize hDD : idT t.p = D at *
  have HDD := Lib.hid hDD
  clear hDD
  go_wp2_with (refine wpList_store_mid rfl 33 (.tmp 2) (.tmp 5) rfl W3.heap.size 0 (bys D).toArray rfl rfl HTH.out (by rw [show (bys D).toArray.size = 32 from HSZ2.out]; exact Tryd.size33) (all_oneCell_toArray (bys_one _)) ?_)
  exact bodyPost_ret (results_arr rfl _ _ W3.heap.size (bys D) _ rfl (World.rangeAt_setCells_same _ _ _ _ (by simpa using HTH.out)) Tryd.underlying33 rfl (by rw [HSZ2.out]; exact Tryd.size33)) rfl ⟨by first | rfl | rw [HDD.out], Below.setCells' HB6.out _ _ (by have := HS3.out; omega) _⟩
end Go.Proofs.YtdppnicbpdjanaaDoor
