/- Walks: sha.start, sha.step. -/
import Derived.Test.YtkokbpifjpmhlaaDoorD1
namespace Go.Proofs.YtkokbpifjpmhlaaDoor
set_option linter.unusedSimpArgs false
set_option linter.unusedVariables false
open Go.RowKit

def us (l : List Int) : List Value := l.map (Value.int .u32)
theorem us_len (l : List Int) : (us l).length = l.length := by simp [us]
theorem us_one (l : List Int) : ∀ u ∈ us l, u.oneCell' = true := by
  intro u hu
  simp only [us, List.mem_map] at hu
  obtain ⟨c, _, rfl⟩ := hu
  rfl
theorem us_get (l : List Int) (k : Nat) (h : k < l.length) : (us l)[k]? = some (.int .u32 (l.getD k 0)) := by
  simp [us, h, List.getD]
def Z8 : Array Value := (us (List.replicate 8 0)).toArray
theorem Tryd.zero63 : (Tryd.prog.info? 63).map (·.zero) = some (some (.agg Z8)) := by kernel_rfl
theorem Tryd.size63 : (Tryd.prog.info? 63).map (·.size) = some 8 := by kernel_rfl
theorem Tryd.size24 : (Tryd.prog.info? 24).map (·.size) = some 1 := by kernel_rfl

theorem results_arr {P : Program} {fn : Func} {p : Tmp} {ty : TypeId} (h : fn.results = #[.cell p ty]) (tmps : Array Value) (w : World) (b : Nat) (cs : List Value) (d : TypeDesc)
    (hp : tmps.getD p undef = .pointer (some ⟨b, 0, none⟩)) (hc : w.rangeAt b 0 cs) (hu : P.underlying ty = some d) (hd : d.isRow = true) (hi : (P.info? ty).map (·.size) = some cs.length) :
    (results fn tmps).run P w = .ok (.agg cs.toArray) w := by
  have hp' : tmps[p]?.getD undef = .pointer (some ⟨b, 0, none⟩) := by rw [← hp]; simp [Array.getD_eq_getD_getElem?]
  simp only [results, h]
  simp [Sem.run_bind, hp', asAddr, run_loadVar_mid w b 0 ty cs d hc hu hd hi]

def S0 : List Int := [0x6a09e667, 0xbb67ae85, 0x3c6ef372, 0xa54ff53a, 0x510e527f, 0x9b05688c, 0x1f83d9ab, 0x5be0cd19]
def A0 : Array Value := (us S0).toArray

set_option maxHeartbeats 400000 in
set_option maxRecDepth 100000 in
theorem start_any (w : World) :
    Calls Tryd.prog 26 #[] w fun e w' => e = .returned (.agg (us S0).toArray) ∧ Below w.heap.size w w' := by
  have HT := Lib.hid (there_new w Z8 63 A0.size rfl)
  have hbel : Below w.heap.size w (w.alloc (.cells Z8 63)) := (Below.refl _ _).alloc (Nat.le_refl _) _
  go_enter Tryd.func26, Tryd.ntmps26
  go_wp2_with (first
    | (refine wpList_of_wp rfl fun K hK => wp_alloc_arr 63 rfl Z8 Tryd.zero63 (hK _ _ ?_))
    | (refine wpList_of_wp rfl fun K hK => wp_build_arr 63 _ rfl 8 24 Z8 A0 Tryd.underlying63 Tryd.zero63 Tryd.size24 (by kernel_rfl) (hK _ _ ?_))
    | (refine wpList_store_mid rfl 63 (.tmp 0) (.tmp 1) rfl w.heap.size 0 A0 rfl rfl HT.out Tryd.size63 (by kernel_rfl) ?_))
  exact bodyPost_ret (results_arr rfl _ _ w.heap.size (us S0) _ rfl (World.rangeAt_setCells_same _ _ _ _ HT.out) Tryd.underlying63 rfl Tryd.size63) rfl ⟨rfl, Below.setCells' hbel _ _ (Nat.le_refl _) _⟩

/-- One step. -/
def sg1 (e : Int) : Int := bits .xor .u32 (bits .xor .u32 (rr 64 67108864 e) (rr 2048 2097152 e)) (rr 33554432 128 e)
def sg0 (a : Int) : Int := bits .xor .u32 (bits .xor .u32 (rr 4 1073741824 a) (rr 8192 524288 a)) (rr 4194304 1024 a)
def chs (e f g : Int) : Int := bits .xor .u32 (bits .and .u32 e f) (bits .and .u32 (bits .xor .u32 IntKind.u32.max e) g)
def maj (a b c : Int) : Int := bits .xor .u32 (bits .xor .u32 (bits .and .u32 a b) (bits .and .u32 a c)) (bits .and .u32 b c)
def tx (e f g h x : Int) : Int := (h + sg1 e + chs e f g + x) % 4294967296
def ux (a b c : Int) : Int := (sg0 a + maj a b c) % 4294967296
def st8 (a b c d e f g h x : Int) : List Int := [(tx e f g h x + ux a b c) % 4294967296, a, b, c, (d + tx e f g h x) % 4294967296, e, f, g]

set_option maxHeartbeats 1000000 in
set_option maxRecDepth 100000 in
theorem step_any (a b c d e f g h x : Int) (ha : W32 a) (hb : W32 b) (hc : W32 c) (hd : W32 d) (he : W32 e) (hf : W32 f) (hg : W32 g) (hh : W32 h) (hx : W32 x) (w : World) :
    Calls Tryd.prog 38 #[.agg (us [a, b, c, d, e, f, g, h]).toArray, .int .u32 x] w fun ee w' => ee = .returned (.agg (us (st8 a b c d e f g h x)).toArray) ∧ Below w.heap.size w w' := by
  have HE := Lib.hid he
  have HA := Lib.hid ha
  clear he ha
  obtain ⟨hb0, hb1⟩ := hb
  obtain ⟨hc0, hc1⟩ := hc
  obtain ⟨hd0, hd1⟩ := hd
  obtain ⟨hf0, hf1⟩ := hf
  obtain ⟨hg0, hg1⟩ := hg
  obtain ⟨hh0, hh1⟩ := hh
  obtain ⟨hx0, hx1⟩ := hx
  simp only [us, List.map]
  have HT := Lib.hid (show ∀ (C : Array Value) nq, (((w.alloc (.cells C 63)).alloc (.cells Z8 63)).drewN nq).there (w.heap.size + 1) 0 8 from fun C nq => by
    have := there_new (w.alloc (.cells C 63)) Z8 63 8 rfl
    simp at this
    exact this)
  have HBL := Lib.hid (show ∀ (C : Array Value) nq, Below w.heap.size w (((w.alloc (.cells C 63)).alloc (.cells Z8 63)).drewN nq) from fun C nq => by
    have h1 : Below w.heap.size w (w.alloc (.cells C 63)) := (Below.refl _ _).alloc (Nat.le_refl _) _
    have := h1.alloc (by simp) (.cells Z8 63)
    exact ⟨this.os, this.tape, this.output, this.size, this.block⟩)
  go_enter Tryd.func38, Tryd.ntmps38
  go_wp2_with (refine wpList_of_wp rfl fun K hK => wp_alloc_arr 63 rfl Z8 Tryd.zero63 (hK _ _ ?_))
  go_quiet (fail)
  go_wp2_with fail
  refine (right6_any _ HE.out _).mono ?_
  rintro ee w' ⟨rfl, rfl⟩
  go_wp2_with fail
  refine (right11_any _ HE.out _).mono ?_
  rintro ee w' ⟨rfl, rfl⟩
  go_wp2_with fail
  refine (right25_any _ HE.out _).mono ?_
  rintro ee w' ⟨rfl, rfl⟩
  go_wp2_with fail
  refine (right2_any _ HA.out _).mono ?_
  rintro ee w' ⟨rfl, rfl⟩
  go_wp2_with fail
  refine (right13_any _ HA.out _).mono ?_
  rintro ee w' ⟨rfl, rfl⟩
  go_wp2_with fail
  refine (right22_any _ HA.out _).mono ?_
  rintro ee w' ⟨rfl, rfl⟩
  go_wp2_with (refine wpList_store_mid rfl 63 (.tmp 4) (.tmp 84) rfl (w.heap.size + 1) 0 _ rfl rfl (HT.out _ _) Tryd.size63 (by kernel_rfl) ?_)
  exact bodyPost_ret (results_arr rfl _ _ (w.heap.size + 1) _ _ rfl (World.rangeAt_setCells_same _ _ _ _ (HT.out _ _)) Tryd.underlying63 rfl Tryd.size63) rfl ⟨by
    unfold st8 tx ux sg0 sg1 chs maj
    simp only [List.map, Int.emod_add_emod, Int.add_emod_emod], Below.setCells' (HBL.out _ _) _ _ (by omega) _⟩
end Go.Proofs.YtkokbpifjpmhlaaDoor
