/- A Table in memory: All, Get, New. -/
import Derived.Test.YtgdkcnpgnmmliabS6
import Derived.Laws.Cover3
namespace Go.Proofs.Ytgdkcnpgnmmliab
set_option linter.unusedSimpArgs false
set_option linter.unusedVariables false
open Go.RowKit

theorem run_eql_nil {P : Program} (w : World) (t e : TypeId) (a : Option Addr) (l c : Nat) (h : P.underlying t = some (.slice e)) : (binOp .eql t (.slice a l c) (.slice none 0 0)).run P w = .ok (.bool a.isNone) w := by
  simp only [binOp]
  simp [run_equal_slice_nil w t e a l c h]

set_option maxHeartbeats 400000 in
theorem cloneE (base B : Nat) (A : Option Addr) (c : Nat) (L : List En) (w : World) (h0 : 0 < L.length) (hn6 : (L.length : Int) ≤ 1000000) (hB : B ≤ w.heap.size) (hr : RdN w B 4 A L.length (flat L)) :
    Calls Try.prog 36 #[.slice A L.length c] w fun e w' => ∃ v, e = .returned v ∧ OwnE w' w.heap.size v L ∧ Below w.heap.size w w' := by
  obtain ⟨ti, hti, hts, htz, htb⟩ := infoE
  obtain ⟨g, off, rfl, hg, hc⟩ := hr.at_ h0
  have hnil := fun wx => run_eql_nil (P := Try.prog) wx 35 42 (some ⟨g, off, none⟩) L.length c Try.underlying35
  have b1 : Below w.heap.size w (w.alloc (.cells #[] 42)) := (Below.refl _ _).alloc (Nat.le_refl _) _
  have own0 : (w.alloc (.cells #[] 42)).ownsRow w.heap.size 42 4 (.slice (some ⟨w.heap.size, 0, none⟩) 0 0) 0 [] := ⟨rfl, .inr ⟨w.heap.size, 0, #[], rfl, Nat.le_refl _, heap_alloc_new w _, Nat.le_refl _, Nat.zero_le _, rfl, rfl⟩⟩
  have hrun := fun ty => run_appN (P := Try.prog) (w.alloc (.cells #[] 42)) w.heap.size 35 ty 42 ti (ent ⟨#[]⟩ 0 false ⟨#[]⟩) 4 48 Try.underlying35 hti htz hts htb rfl (by omega) own0 (c := c) (hr.below (b1.mono hB)) (flat_one L) (by unfold maxLen; omega) (by omega) b1.size
  have hrun2 : ∃ v' w', (∀ ty, (Builtin.append_ #[35, 35] ty #[.slice (some ⟨w.heap.size, 0, none⟩) 0 0, .slice (some ⟨g, off, none⟩) L.length c]).run Try.prog (w.alloc (.cells #[] 42)) = .ok v' w') ∧ OwnE w' w.heap.size v' L ∧ Below w.heap.size w w' := by
    obtain ⟨v', w', h, h1, h2, _⟩ := hrun 0
    refine ⟨v', w', fun ty => h, by simpa using h1, b1.trans ⟨h2.os, h2.tape, h2.output, h2.size, fun k hk => h2.block k (by simp; omega) (fun e => ?_)⟩⟩
    injection e with e
    have e : k = w.heap.size := e
    omega
  obtain ⟨v', w', h1, h2⟩ := hrun2
  have H2 := Lib.hid h2
  clear hrun h2 own0 b1 hti hts htz htb hc hr
  generalize L.length = n at *
  go_enter Try.func36, Try.ntmps36
  go_wp2_with (at_builtin; refine wpList_appz rfl (.tmp 5) (.tmp 6) 35 35 rfl rfl rfl (h1 _) ?_)
  go_ret
  exact ⟨_, rfl, H2.out⟩

set_option maxHeartbeats 1000000 in
theorem all_any (base gt gs : Nat) (v : Value) (L : List En) (w : World) (h : Tb w base gt gs v L) (hn6 : (L.length : Int) ≤ 1000000) :
    Calls Try.prog 21 #[.pointer (some ⟨gt, 0, none⟩)] w fun e w' => ∃ v', e = .returned v' ∧ OwnE w' w.heap.size v' L ∧ Below w.heap.size w w' := by
  have HL := Lib.hid (tlen_any base gt gs v L w h hn6)
  obtain ⟨A, c, rfl, hnc, hcm, hr⟩ := own_rdN h.sd.own
  have b0 := h.box.c0
  have b1 := h.sd.box.c1
  cases L with
  | nil =>
    clear h
    go_enter Try.func21, Try.ntmps21
    go_wp2_with (go_at_call 22; refine HL.out.mono ?_; rintro e w' ⟨rfl, rfl⟩)
    go_ret
    exact ⟨_, rfl, ⟨rfl, .inl ⟨rfl, rfl⟩⟩, Below.refl _ _⟩
  | cons y M =>
    have h0 : 0 < (y :: M).length := by simp
    have HC := Lib.hid (cloneE base w.heap.size A c (y :: M) w h0 hn6 (Nat.le_refl _) hr)
    generalize (y :: M) = K at *
    have hz : ¬ ((K.length : Int) = 0) := by omega
    clear h hr
    generalize hK : K.length = n at *
    have HK := Lib.hid hK
    clear hK
    go_enter Try.func21, Try.ntmps21
    go_wp2_with (first
      | (go_at_call 22; refine HL.out.mono ?_; rintro e w' ⟨rfl, rfl⟩)
      | (go_at_call 36; refine HC.out.mono ?_; rintro e w' ⟨v', rfl, hO, hb⟩))
    go_ret
    exact ⟨_, rfl, by first | exact hO | (unfold OwnE; rw [HK.out]; exact hO), hb⟩

set_option maxHeartbeats 400000 in
theorem newS_any (w : World) : Calls Try.prog 31 #[fCmp] w fun e w' => e = .returned (.pointer (some ⟨w.heap.size, 0, none⟩)) ∧ w' = w.alloc (.cells #[fCmp, .slice none 0 0] 68) := by
  have hF := eqlF w
  go_enter Try.func31, Try.ntmps31
  go_wp2
  go_ret
  exact ⟨rfl, rfl⟩
set_option maxHeartbeats 400000 in
theorem new_any (w : World) : Calls Try.prog 17 #[] w fun e w' => e = .returned (.pointer (some ⟨w.heap.size + 1, 0, none⟩)) ∧ w' = (w.alloc (.cells #[fCmp, .slice none 0 0] 68)).alloc (.cells #[.pointer (some ⟨w.heap.size, 0, none⟩), .int .i64 0] 61) := by
  go_enter Try.func17, Try.ntmps17
  go_wp2_with (go_at_call 31; refine (newS_any _).mono ?_; rintro e w' ⟨rfl, rfl⟩)
  go_ret
  exact ⟨rfl, rfl⟩
theorem Tb.new (w : World) (base : Nat) (hb : base ≤ w.heap.size) : Tb ((w.alloc (.cells #[fCmp, .slice none 0 0] 68)).alloc (.cells #[.pointer (some ⟨w.heap.size, 0, none⟩), .int .i64 0] 61)) base (w.heap.size + 1) w.heap.size (.slice none 0 0) [] := by
  have e : (w.alloc (.cells #[fCmp, .slice none 0 0] 68)).heap.size = w.heap.size + 1 := by simp
  refine ⟨?_, ⟨?_, ⟨rfl, .inl ⟨rfl, rfl⟩⟩, hb, by simp [Value.ownBlock], List.Pairwise.nil⟩, by omega, by omega, by simp [Value.ownBlock]⟩
  · have := Bx2.new (w.alloc (.cells #[fCmp, .slice none 0 0] 68)) (.pointer (some ⟨w.heap.size, 0, none⟩)) (.int .i64 0) 61
    rw [e] at this
    exact this
  · exact (Bx2.new w fCmp (.slice none 0 0) 68).keep (((Below.refl _ _).alloc (Nat.le_refl _) _).block _ (by rw [e]; omega))
end Go.Proofs.Ytgdkcnpgnmmliab
