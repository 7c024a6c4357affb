/- Walks: sizeFor, Make. -/
import Derived.Test.YtajgmadohhagkaaDoorC2
import Derived.Test.YtajgmadohhagkaaDoorN0
namespace Go.Proofs.YtajgmadohhagkaaDoor
set_option linter.unusedSimpArgs false
set_option linter.unusedVariables false
open Go.RowKit

set_option maxHeartbeats 400000 in
theorem size_any (k : Nat) (hk : (k : Int) ≤ 100000) (w : World) :
    Calls Tryd.prog 16 #[.int .i64 (k : Int)] w fun e w' => e = .returned (.int .i64 ((fsz k : Nat) : Int)) ∧ w = w' := by
  by_cases h : (10 * k + 7) / 8 ≤ 8
  · have hf : fsz k = 8 := by unfold fsz; omega
    rw [hf]
    have h2 : (10 * (k : Int) + 8 - 1) / 8 ≤ 8 := by omega
    clear h hf
    go_enter Tryd.func16, Tryd.ntmps16
    go_wp2
    go_ret
    exact ⟨rfl, rfl⟩
  · have hf : fsz k = (10 * k + 7) / 8 := by unfold fsz; omega
    have hf2 : ((fsz k : Nat) : Int) = (10 * (k : Int) + 8 - 1) / 8 := by omega
    rw [hf2]
    have h2 : 8 < (10 * (k : Int) + 8 - 1) / 8 := by omega
    clear h hf hf2
    go_enter Tryd.func16, Tryd.ntmps16
    go_wp2
    go_ret
    exact ⟨rfl, rfl⟩

theorem make5 {i0 : TypeInfo} (hi : Tryd.prog.info? 5 = some i0) (hz0 : i0.zero = some (.int .u8 0)) (hz1 : i0.size = 1) (hz2 : i0.bytes = 1) (n : Nat) (hc : n ≤ 2000000) (w : World) :
    (Instr.makeSlice 30 (.int .i64 (n : Int)) (.int .i64 (n : Int))).run Tryd.prog w = .ok (.slice (some ⟨w.heap.size, 0, none⟩) n n) (w.alloc (.cells (bys (List.replicate n 0)).toArray 5)) := by
  have := run_makeSlice (P := Tryd.prog) w 30 5 i0 (.int .u8 0) Tryd.underlying30 hi hz0 .i64 .i64 (n : Int) (n : Int) (by omega) (by omega) (by rw [hz1]; omega) (by rw [hz2]; omega) (by omega)
  rw [this, hz1]
  have e : madeCells (Value.int .u8 0).cells (n * 1) = (bys (List.replicate n 0)).toArray := by
    apply Array.toList_inj.1
    show (madeCells #[Value.int .u8 0] (n * 1)).toList = _
    rw [toList_madeCells_one]
    simp [bys]
  simp only [e, Int.toNat_natCast]

/-- Texts as cells. -/
def strs (L : List (List Nat)) : List Value := L.map fun s => .string (strB s)
theorem strs_len (L : List (List Nat)) : (strs L).length = L.length := by simp [strs]
theorem strs_get (L : List (List Nat)) (k : Nat) (s : List Nat) (h : L[k]? = some s) : (strs L)[k]? = some (.string (strB s)) := by simp [strs, h]
/-- A filter of bytes l. -/
def flt (l : List Nat) : Value := .agg #[.string (strB l)]

set_option maxHeartbeats 1000000 in
set_option maxRecDepth 100000 in
theorem make_any (A : Option Addr) (c : Nat) (L : List (List Nat)) (w : World) (hr : Rd w w.heap.size A L.length (strs L)) (hs : ∀ s ∈ L, (∀ c ∈ s, c < 256) ∧ s.length ≤ 1000000000) (hn : (L.length : Int) ≤ 100000) (ht : TabAt w) :
    Calls Tryd.prog 10 #[.slice A L.length c] w fun e w' => e = .returned (.tuple #[flt (mkF (fsz L.length) L), .int .i64 0]) ∧ Below w.heap.size w w' := by
  obtain ⟨i0, hi, hz0, hz1, hz2⟩ := info_parts Tryd.info5
  have HSZ := Lib.hid (fun W => size_any L.length hn W)
  have hnp := fsz_pos L.length
  have hnu : (fsz L.length : Int) ≤ 1048576 := by unfold fsz; omega
  have kc := fun W (l : List Nat) A m (hR : Rd W W.heap.size A m (bys l)) c => run_conv (P := Tryd.prog) c hR 30 9 5 Tryd.underlying30 Tryd.underlying5 Tryd.underlying9
  have KC := Lib.hid kc
  clear kc
  obtain ⟨n, hnn⟩ : ∃ n, n = fsz L.length := ⟨_, rfl⟩
  rw [← hnn] at HSZ hnp hnu ⊢
  have HNN := Lib.hid hnn
  clear hnn
  have km := fun W => make5 hi hz0 hz1 hz2 n (by omega) W
  have HT := Lib.hid ht
  have HR := Lib.hid hr
  have HS := Lib.hid hs
  clear ht hr hs
  obtain ⟨N, hN⟩ : ∃ N, N = L.length := ⟨_, rfl⟩
  rw [← hN] at HSZ hn ⊢
  have HN := Lib.hid hN
  clear hN
  go_enter Tryd.func10, Tryd.ntmps10
  go_upto_region 5 with (go_at_call 16; refine (HSZ.out _).mono ?_; rintro e w' ⟨rfl, rfl⟩)
  obtain ⟨B, hB⟩ : ∃ B, B = w.heap.size := ⟨_, rfl⟩
  rw [← hB]
  obtain ⟨wx, hwx⟩ : ∃ wx, wx = ((w.alloc (Obj.cells #[Value.string { data := #[] }] 26)).alloc (Obj.cells (bys (List.replicate n 0)).toArray 5)).alloc (Obj.cells #[Value.slice (some { block := B + 1, off := 0 }) n n] 30) := ⟨_, rfl⟩
  rw [← hwx]
  have hlx : B + 3 ≤ wx.heap.size := by rw [hwx, hB]; simp
  have bx : Below B w wx := by
    rw [hwx, hB]
    exact ((((Below.refl _ w).alloc (Nat.le_refl _) _).alloc (by simp) _).alloc (by simp; omega) _)
  have c0 : wx.heap[B]? = some (Obj.cells #[Value.string { data := #[] }] 26) := by rw [hwx, hB, Below.heap_alloc _ _ _ (by simp; omega), Below.heap_alloc _ _ _ (by simp), heap_alloc_new]
  have BT : Bts wx (B + 1) (B + 2) (.slice (some ⟨B + 1, 0, none⟩) n n) (mkF n (L.take 0)) := by
    have e0 : mkF n (L.take 0) = List.replicate n 0 := by simp [mkF]
    rw [e0]
    refine ⟨?_, ?_, ?_, by omega⟩
    · rw [hwx, hB]
      have := World.cell?_alloc_mark ((w.alloc (Obj.cells #[Value.string { data := #[] }] 26)).alloc (Obj.cells (bys (List.replicate n 0)).toArray 5)) #[Value.slice (some { block := w.heap.size + 1, off := 0 }) n n] 30 (0, 0) 0
      simpa using this
    · rw [List.length_replicate]
      have h1 := World.ownsRow_lit (base := B + 1) (e := 5) (size := 1) (w.alloc (Obj.cells #[Value.string { data := #[] }] 26)) (bys (List.replicate n 0)).toArray n (by simp; omega) (by unfold maxLen; omega) (by simp [bys_len])
      have e1 : (w.alloc (Obj.cells #[Value.string { data := #[] }] 26)).heap.size = B + 1 := by rw [hB]; simp
      rw [e1] at h1
      have h2 := own_keep (w' := wx) h1 (fun k hk => by
        injection hk with hk
        subst hk
        rw [hwx]
        exact Below.heap_alloc _ _ _ (by simp; omega))
      simpa using h2
    · simp [Value.ownBlock]
  have cB : wx.cell? ⟨B, 0, none⟩ = some (.string { data := #[] }) := by simp [World.cell?, c0]
  have fB : wx.frozen? ⟨B, 0, none⟩ = false := by simp [World.frozen?, c0]
  have HBW := Lib.hid bx
  have HBT := Lib.hid BT
  have HLX := Lib.hid hlx
  have HTX := Lib.hid (HT.out.below (by rw [hB] at bx; exact bx) HT.out.1)
  have HBE := Lib.hid hB
  clear hwx c0 BT bx hB
  go_upto_region 6 with fail
  go_loopg [7, 18] N (fun kx s7 s18 wr => ∃ j : Nat, j ≤ N ∧ kx = N - j ∧ s18 = .int .i64 (j : Int) ∧ Hid (Bts wr (B + 1) (B + 2) (.slice (some ⟨B + 1, 0, none⟩) n n) (mkF n (L.take j)) ∧ Below (B + 1) wx wr))
  case atStart => exact ⟨0, Nat.zero_le _, rfl, rfl, Lib.hid ⟨HBT.out, Below.refl _ _⟩⟩
  case round =>
    obtain ⟨j, hj, hkx, rfl, HI⟩ := hrel
    have HX := Lib.hid hkx
    clear hkx
    by_cases hlt : j < N
    · have hlt' : (j : Int) < (N : Int) := by omega
      obtain ⟨s, hsj⟩ : ∃ s, L[j]? = some s := ⟨_, List.getElem?_eq_getElem (by have := HN.out; omega)⟩
      have hss := HS.out s (List.mem_of_getElem? hsj)
      have hbw : Below w.heap.size w wr := by
        have := HBW.out.trans (HI.out.2.mono (by omega))
        rwa [HBE.out] at this
      obtain ⟨g, off, u, rfl, hgB, hu, hcell⟩ := (HR.out.below hbw).at_ (k := j) (by have := HN.out; omega)
      rw [strs_get L j s hsj] at hu
      injection hu with hu
      subst hu
      have hgap : s.length ≤ 1000000000 := hss.2
      have HSN : Hid (mkF n (L.take (j + 1)) = setN (mkF n (L.take j)) (kp n s) 6) := Lib.hid (by
        have : L.take (j + 1) = L.take j ++ [s] := by rw [List.take_add_one, hsj]; rfl
        rw [this, mkF_snoc, addK])
      have HLN : Hid ((mkF n (L.take j)).length = n ∧ ∀ c ∈ mkF n (L.take j), c < 256) := Lib.hid ⟨mkF_len _ _, mkF_lt _ _⟩
      generalize mkF n (L.take j) = F at *
      generalize hF2 : mkF n (L.take (j + 1)) = F2 at *
      have HF2 := Lib.hid hF2
      clear hF2
      have HW := Lib.hid (walk_any 18 (.pointer (some ⟨B + 2, 0, none⟩)) (fun _ _ => rfl) s hss.1 hss.2 n (by omega) wr (by
          have h1 := HTX.out.below (HI.out.2.mono (show 1 ≤ B + 1 by omega)) (by omega)
          exact h1)
        (fun k W => Bts W (B + 1) (B + 2) (.slice (some ⟨B + 1, 0, none⟩) n n) (setN F (kp n s) k) ∧ Below (B + 1) wx W) (fun _ => true)
        (fun W hW => ⟨HI.out.1.below hW, HI.out.2.trans (hW.mono (by have := HI.out.2.size; have := HLX.out; omega))⟩)
        (fun k W hk h => by
          have hl2 : (setN F (kp n s) k).length = n := by rw [setN_len, HLN.out.1]
          have hp := kp_lt n s hss.1 hnp k
          have := set_any (setN F (kp n s) k) (setN_lt F HLN.out.2 _ k) (B + 1) (B + 2) (kp n s k) _ (by rw [hl2]; exact kp_byte n s hss.1 hnp k) (by omega) W h.1
          refine this.mono ?_
          rintro e w' ⟨rfl, h1, h2⟩
          exact ⟨rfl, h1, h.2.trans h2⟩))
      go_wp2_with fail
      refine HW.out.mono ?_
      rintro e w2 (⟨rfl, hI2, _⟩ | ⟨rfl, m, _, _, hf⟩)
      · have HI2 := Lib.hid hI2
        clear hI2 HW
        go_wp2
        go_roundg (N - (j + 1))
        case measure => have := HX.out; omega
        case rel => exact ⟨j + 1, by omega, rfl, by go_num, Lib.hid (by rw [HF2.out, HSN.out]; exact HI2.out)⟩
      · cases hf
    · obtain rfl : j = N := by omega
      have hLe : L.take j = L := List.take_of_length_le (by have := HN.out; omega)
      rw [hLe] at HI
      have HFl : Hid ((mkF n L).length = n) := Lib.hid (mkF_len _ _)
      generalize hFe : mkF n L = F at *
      have HFe := Lib.hid hFe
      clear hFe
      have cb : wr.cell? ⟨B + 1 + 1, 0, none⟩ = some (.slice (some ⟨B + 1, 0, none⟩) n n) := HI.out.1.cell
      have hor : wr.ownsRow (B + 1) 5 1 (.slice (some ⟨B + 1, 0, none⟩) n n) n (bys F) := by
        have := HI.out.1.own
        rwa [HFl.out] at this
      have kq := KC.out wr F _ n (own_rd hor) n
      have c1 : wr.cell? ⟨B, 0, none⟩ = some (.string { data := #[] }) := (HI.out.2.cell (p := ⟨B, 0, none⟩) (by show B < B + 1; omega)).trans cB
      have f1 : wr.frozen? ⟨B, 0, none⟩ = false := (World.frozen?_of_block (w := wx) (a := ⟨B, 0, none⟩) (HI.out.2.block B (by omega))).trans fB
      have HBF : Hid (∀ v, Below w.heap.size w (wr.setCell ⟨B, 0, none⟩ v)) := Lib.hid fun v => by
        have h1 := HBW.out.trans (HI.out.2.mono (show B ≤ B + 1 by omega))
        have h2 := h1.setCell (p := ⟨B, 0, none⟩) (Nat.le_refl _) v
        rwa [← HBE.out]
      clear cb hor cB fB hlt
      have cb : wr.cell? ⟨B + 1 + 1, 0, none⟩ = some (.slice (some ⟨B + 1, 0, none⟩) n n) := HI.out.1.cell
      go_wp2
      have q0 : (wr.setCell { block := B, off := 0 } (Value.string (strB F))).cell? ⟨B, 0, none⟩ = some (.string (strB F)) := World.cell?_setCell_same _ _ _ c1
      refine bodyPost_ret (v := .tuple #[flt F, .int .i64 0]) (by simp [results, Tryd.results10, go_sem, q0, flt]) rfl ⟨?_, HBF.out _⟩
      rw [HFe.out]
end Go.Proofs.YtajgmadohhagkaaDoor
