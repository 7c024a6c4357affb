/- Walks: putPair. -/
import Derived.Test.YtalcdmpjpphopaaP1
namespace Go.Proofs.Ytalcdmpjpphopaa
set_option linter.unusedSimpArgs false
set_option linter.unusedVariables false
open Go.RowKit

theorem strB_drop (s : List Nat) (j : Nat) : (strB s).extract j (strB s).size = strB (s.drop j) := by
  unfold strB
  rw [ByteArray.size, ByteArray.ext_iff]
  simp [ByteArray.data_extract, List.map_drop]
  exact List.take_of_length_le (by simp)
theorem Laid.of_below {w w1 : World} {base : Nat} {v : Value} {n : Nat} {xs : List Value} (h : Buf w base v n xs) (hb : Below w.heap.size w w1) : Laid w base v w1 v n xs :=
  ⟨h.below hb fun k hk => (h.lt k hk).2, ⟨hb.os, hb.tape, hb.output, hb.size, fun k hk _ => hb.block k hk⟩, .inl rfl⟩
def okP (p : Pr) : Prop := (∀ x ∈ p.1, x < 256) ∧ (∀ x ∈ p.2, x < 256) ∧ p.1.length ≤ 1000000 ∧ p.2.length ≤ 1000000

set_option maxHeartbeats 1000000 in
set_option maxRecDepth 100000 in
theorem putPair_any (a : List Nat) (p : Pr) (ha : ∀ x ∈ a, x < 256) (hla : a.length ≤ 1000000) (hp : okP p) (w : World) (base : Nat) {v : Value} {n : Nat} {xs : List Value} (hbuf : Buf w base v n xs) (hn : n ≤ 900000000) (hbase : base ≤ w.heap.size) :
    Calls Try.prog 23 #[v, .string (strB a), .agg #[.string (strB p.1), .string (strB p.2)]] w fun e w' => ∃ v', e = .returned v' ∧ Laid w base v w' v' (n + (pairB a p).length) (xs ++ bys (pairB a p)) := by
  obtain ⟨i0, hi, hz0, hz1, hz2⟩ := info_parts Try.info5
  obtain ⟨h1, h2, h3, h4⟩ := hp
  have HP : Hid (pairB a p = M.putB (alk a p.1) ++ M.putB (p.1.length - alk a p.1) ++ M.putB p.2.length ++ p.1.drop (alk a p.1) ++ p.2) := Lib.hid rfl
  have HPL := Lib.hid (pairB_len a p)
  have hal := (alk_le a p.1).2
  obtain ⟨nm, vl⟩ := p
  simp only at h1 h2 h3 h4 HP HPL hal ⊢
  have HAL := Lib.hid (fun W => alike_any a nm ha h1 (by omega) (by omega) W)
  have hsl := strB_drop nm (alk a nm)
  have hsz := strB_size nm
  rw [hsz] at hsl
  have hszv := strB_size vl
  have hszd := strB_size (nm.drop (alk a nm))
  rw [List.length_drop] at hszd
  have HDB : Hid (∀ x ∈ nm.drop (alk a nm), x < 256) := Lib.hid (fun x hx => h1 x (List.mem_of_mem_drop hx))
  have HDL : Hid ((nm.drop (alk a nm)).length = nm.length - alk a nm) := Lib.hid (List.length_drop)
  have h10a := M.sz_le (alk a nm) (by omega)
  have h10b := M.sz_le (nm.length - alk a nm) (by omega)
  have h10c := M.sz_le vl.length (by omega)
  generalize nm.drop (alk a nm) = D at *
  generalize alk a nm = K at *
  have hKn : (K : Int) ≤ (nm.length : Int) := by omega
  have b1 : Below w.heap.size w (w.alloc (.cells #[.string (strB nm), .string (strB vl)] 30)) := (Below.refl _ _).alloc (Nat.le_refl _) _
  have HBF := Lib.hid hbuf
  have hm2 : ∀ k, (w.alloc (.cells #[.string (strB nm), .string (strB vl)] 30)).cell? ⟨w.heap.size, k, none⟩ = #[Value.string (strB nm), Value.string (strB vl)][k]? := fun k => World.cell?_alloc_mark _ _ _ _ _
  have q0 : (w.alloc (.cells #[.string (strB nm), .string (strB vl)] 30)).cell? ⟨w.heap.size, 0, none⟩ = some (.string (strB nm)) := hm2 0
  have q1 : (w.alloc (.cells #[.string (strB nm), .string (strB vl)] 30)).cell? ⟨w.heap.size, 1, none⟩ = some (.string (strB vl)) := hm2 1
  have z1 : w.heap.size < (w.alloc (.cells #[.string (strB nm), .string (strB vl)] 30)).heap.size := by simp
  clear hbuf hm2
  go_enter Try.func23, Try.ntmps23
  go_upto_region 1 with fail
  generalize w.alloc (.cells #[.string (strB nm), .string (strB vl)] 30) = w1 at *
  obtain ⟨gp, hgp⟩ : ∃ gp, gp = w.heap.size := ⟨_, rfl⟩
  rw [← hgp] at q0 q1 z1 ⊢
  have HGP := Lib.hid hgp
  clear hgp
  go_wp2_with fail
  refine (HAL.out _).mono ?_
  rintro e w2 ⟨rfl, hb2⟩
  have HL2 := Lib.hid (Laid.of_below HBF.out (b1.trans (hb2.mono (by have := HGP.out; omega))))
  have q0 := (hb2.cell (p := ⟨gp, 0, none⟩) z1).trans q0
  have q1 := (hb2.cell (p := ⟨gp, 1, none⟩) z1).trans q1
  have z2 : gp < w2.heap.size := Nat.lt_of_lt_of_le z1 hb2.size
  have hbs2 : base ≤ w2.heap.size := by have := HGP.out; omega
  clear hb2 b1 z1
  have hvo : ∀ k, v.ownBlock = some k → k < gp := fun k hk => by rw [HGP.out]; exact (HBF.out.lt k hk).2
  have HKC := Lib.hid (fun (W : World) (v' : Value) (m : Nat) (ys : List Value) (T : Laid w2 base v W v' m ys) => show W.cell? ⟨gp, 1, none⟩ = some (.string (strB vl)) from
    (World.cell?_of_block (w := w2) (a := ⟨gp, 1, none⟩) (T.grown.block gp z2 (fun e => by have := hvo gp e.symm; omega))).trans q1)
  have HB2 := HL2.out.buf
  have HT2 : Hid (Laid w2 base v w2 v n xs) := Lib.hid (Laid.refl HB2)
  have HPT := Lib.hid (fun (x : Nat) (hx : (x : Int) ≤ 1000000) (W : World) (v' : Value) (m : Nat) (ys : List Value) (T : Laid w2 base v W v' m ys) (hm : m ≤ 950000000) => put_any (x : Int) (by omega) (by omega) W base T.buf (by omega) (Nat.le_trans hbs2 T.grown.size))
  clear HBF HAL hal
  go_wp2_with fail
  refine (HPT.out K (by omega) w2 _ _ _ HT2.out (by omega)).mono ?_
  rintro e w3 ⟨v3, rfl, T3⟩
  rw [Int.toNat_natCast] at T3
  have HT3 := Lib.hid (HT2.out.trans T3)
  clear T3 HB2
  go_wp2_with fail
  refine (HPT.out (nm.length - K) (by omega) w3 _ _ _ HT3.out (by omega)).mono ?_
  rintro e w4 ⟨v4, rfl, T4⟩
  rw [Int.toNat_natCast] at T4
  have HT4 := Lib.hid (HT3.out.trans T4)
  have c4 := HKC.out _ _ _ _ HT4.out
  clear T4
  go_wp2_with fail
  refine (HPT.out vl.length (by omega) w4 _ _ _ HT4.out (by omega)).mono ?_
  rintro e w5 ⟨v5, rfl, T5⟩
  rw [Int.toNat_natCast] at T5
  have HT5 := Lib.hid (HT4.out.trans T5)
  have b5 := HT5.out.buf
  have s5 := Nat.le_trans hbs2 HT5.out.grown.size
  have c4 := HKC.out _ _ _ _ HT5.out
  have hdl := HDL.out
  clear T5
  go_wp2_with (at_builtin; refine wpList_append_bufstr _ rfl (.tmp 32) (.tmp 33) 25 9 rfl base 5 i0 (.int .u8 0) Try.underlying25 Try.underlying9 hi hz0 hz1 hz2 rfl rfl b5 D HDB.out rfl ?a1 ?a2 s5 ?a3)
  case a1 => unfold maxLen; omega
  case a2 => omega
  case a3 =>
    intro v6 w6 r1 r2 r3
    have HT6 := Lib.hid (HT5.out.trans ⟨r1, r2, r3⟩)
    have b6 := r1
    have s6 := Nat.le_trans hbs2 HT6.out.grown.size
    have c6 := HKC.out _ _ _ _ HT6.out
    clear r1 r2 r3 b5 s5 c4
    go_wp2_with (at_builtin; refine wpList_append_bufstr _ rfl (.tmp 35) (.tmp 37) 25 9 rfl base 5 i0 (.int .u8 0) Try.underlying25 Try.underlying9 hi hz0 hz1 hz2 rfl rfl b6 vl h2 rfl ?b1 ?b2 s6 ?b3)
    case b1 => unfold maxLen; omega
    case b2 => omega
    case b3 =>
      intro v7 w7 r1 r2 r3
      have HT7 := Lib.hid (HL2.out.trans (HT6.out.trans ⟨r1, r2, r3⟩))
      clear r1 r2 r3 b6 s6 c6
      go_wp2
      go_ret
      refine ⟨v7, rfl, ?_⟩
      rw [HP.out]
      have := HT7.out
      simpa [bys_app, List.append_assoc, Nat.add_assoc, M.putB_len, hdl] using this
end Go.Proofs.Ytalcdmpjpphopaa
