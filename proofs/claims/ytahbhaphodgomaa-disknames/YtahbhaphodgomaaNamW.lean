/- The walk of DiskNames. -/
import Derived.Test.YtahbhaphodgomaaNamM
namespace Go.Proofs.Ytahbhaphodgomaa
set_option linter.unusedSimpArgs false
set_option linter.unusedVariables false
open Go.RowKit Go.Maps

set_option maxHeartbeats 400000 in
set_option maxRecDepth 100000 in
theorem names_early (x : List UInt8) (w : World) (h : (200 : Int) < (x.length : Int)) :
    Calls Try.prog 4 #[.string ⟨x.toArray⟩] w fun e w' => e = .returned (.bool true) ∧ Below w.heap.size w w' := by
  have hsz : (⟨x.toArray⟩ : ByteArray).size = x.length := by show x.toArray.size = _; simp
  generalize x.length = n at *
  go_enter Try.func4, Try.ntmps4
  go_wp2_with fail
  refine (head_any _).mono ?_
  rintro e w1 ⟨rfl, hb1⟩
  go_wp2_with fail
  go_ret
  exact ⟨rfl, hb1⟩

theorem zeroI (w : World) : (zeroValue 3).run Try.prog w = .ok (.int .i64 0) w := by kernel_rfl
set_option maxHeartbeats 4000000 in
set_option maxRecDepth 100000 in
theorem names_walk (x : List UInt8) (w : World) (h : (x.length : Int) ≤ 200) :
    Calls Try.prog 4 #[.string ⟨x.toArray⟩] w fun e w' => e = .returned (.bool true) ∧ Below w.heap.size w w' := by
  have hsz : (⟨x.toArray⟩ : ByteArray).size = x.length := by show x.toArray.size = _; simp
  have HX : Hid (x.length ≤ 1000) := Lib.hid (by omega)
  have hx2 : decide ((200 : Int) < (x.length : Int)) = false := by simp; omega
  have HNm := Lib.hid (fun wx => named_any x wx HX.out)
  have HLn := Lib.hid (fun wx => lnamed_any x wx HX.out)
  unfold str at HNm HLn
  obtain ⟨n, HN⟩ : ∃ n, Hid (n = x.length) := ⟨_, Lib.hid rfl⟩
  rw [← HN.out] at hsz h hx2
  cases hB : named x with
  | true =>
    have hst : (⟨[], clamp 10, 0, false⟩ : DS).create x = (⟨[⟨x, [], 0⟩], 10, 0, false⟩, 0) := by simp [DS.create, hB, lookA, DS.step, insA]; rfl
    rw [hB] at HNm HLn
    have HB := Lib.hid hB
    clear hB
    go_enter Try.func4, Try.ntmps4
    go_wp2_with fail
    refine (head_any _).mono ?_
    rintro e w0 ⟨rfl, hb0⟩
    have hz0 := hb0.size
    go_wp2_with fail
    refine (new_any 10 w0 (by decide) w.heap.size hz0).mono ?_
    rintro e w1 ⟨rfl, hd1, hb1⟩
    have hbw1 := hb0.trans (hb1.mono hz0)
    have hz1 := hbw1.size
    generalize hgd : w0.heap.size = gd at *
    clear hgd
    have HC := create_any w1 _ _ _ _ x hd1 HX.out hz1 (by decide)
    rw [hst] at HC
    unfold str at HC
    have HC := Lib.hid HC
    clear hst
    go_wp2_with fail
    refine (HLn.out w1).mono ?_
    rintro e w2 ⟨rfl, rfl⟩
    go_wp2_with fail
    refine (nil_fuse 1 w1).mono ?_
    rintro e w2 ⟨rfl, rfl⟩
    go_wp2_with fail
    refine (nil_crash _ w1).mono ?_
    rintro e w2 ⟨rfl, rfl⟩
    go_wp2_with fail
    refine (nil_read _ 0 1 w1).mono ?_
    rintro e w2 ⟨rfl, rfl⟩
    go_wp2_with fail
    refine (nil_size _ w1).mono ?_
    rintro e w2 ⟨rfl, rfl⟩
    go_wp2_with fail
    refine (HNm.out w1).mono ?_
    rintro e w2 ⟨rfl, rfl⟩
    go_wp2_with fail
    refine (HLn.out w1).mono ?_
    rintro e w2 ⟨rfl, rfl⟩
    go_wp2_with fail
    refine HC.out.mono ?_
    rintro e w3 ⟨rfl, hn3⟩
    obtain ⟨L3, hd3, hbw3, hz3⟩ := hn3.go hd1 hbw1 hz1
    have HLs := Lib.hid (list_any w3 _ _ _ _ hd3 (by simp))
    clear HC hn3 hd1 hbw1 hb1
    go_wp2_with fail
    refine HLs.out.mono ?_
    rintro e w4 ⟨v4, rfl, hbuf4, hb4⟩
    have hbw4 := hbw3.trans (hb4.mono hz3)
    have hz4 := hbw4.size
    obtain ⟨A4, c4, ev4, _, _⟩ := hbuf4.slice
    have ev : v4 = .slice A4 1 c4 := ev4
    subst ev
    have hmade := World.ownsMap_made w4 Try.prog 4 (plainElem (H := Unit) Try.prog 3)
    obtain ⟨w5, hmu, hown5, hg5⟩ := hmade.update (bool_keyed Try.underlying4) Try.underlying53 (by unfold maxLen; omega) (key := .bool true) (val := .int .i64 1) (keyOf_bool_mk Try.underlying4 true) (plainElem_int Try.underlying3 (by decide))
    obtain ⟨cc, hlu, hat, _⟩ := hown5.lookup_int (bool_keyed Try.underlying4) Try.underlying53 Try.underlying3 (zeroI w5) (keyOf_bool_mk Try.underlying4 true)
    have hcc : cc = 1 := by
      simp [DataW.put, DataW.insert, DataW.atKey, Lit.sameKey] at hat
      exact hat.symm
    subst hcc
    have hbw5 : Below w.heap.size w w5 := (hbw4.alloc hz4 (.map #[] 0)).grown hg5 (by simp; omega) (fun k hk => by injection hk with hk; omega)
    have hmm := @run_makeMap Try.prog
    clear hmade hown5 hg5 hat hbuf4 ev4 HLs hd3
    go_wp2_with fail
    refine (HLn.out w5).mono ?_
    rintro e w6 ⟨rfl, rfl⟩
    go_wp2_with fail
    refine (nil_create _ w5).mono ?_
    rintro e w6 ⟨rfl, rfl⟩
    go_wp2_with fail
    refine (nil_append _ _ w5).mono ?_
    rintro e w6 ⟨rfl, rfl⟩
    go_wp2_with fail
    refine (nil_sync _ w5).mono ?_
    rintro e w6 ⟨rfl, rfl⟩
    go_wp2_with fail
    refine (nil_rename _ _ w5).mono ?_
    rintro e w6 ⟨rfl, rfl⟩
    go_wp2_with fail
    refine (nil_remove _ w5).mono ?_
    rintro e w6 ⟨rfl, rfl⟩
    go_wp2_with fail
    refine (nil_spoil _ 0 1 w5).mono ?_
    rintro e w6 ⟨rfl, rfl⟩
    go_wp2_with fail
    refine (nil_list w5).mono ?_
    rintro e w6 ⟨rfl, rfl⟩
    go_wp2_with fail
    refine (nil_used w5).mono ?_
    rintro e w6 ⟨rfl, rfl⟩
    go_wp2_with fail
    refine (nil_room w5).mono ?_
    rintro e w6 ⟨rfl, rfl⟩
    go_wp2_with fail
    refine (nil_down w5).mono ?_
    rintro e w6 ⟨rfl, rfl⟩
    go_wp2_with fail
    refine (nil_clone w5).mono ?_
    rintro e w6 ⟨rfl, rfl⟩
    go_wp2_with fail
    go_ret
    exact ⟨rfl, hbw5⟩
  | false =>
    have hst : (⟨[], clamp 10, 0, false⟩ : DS).create x = (⟨[], 10, 0, false⟩, 1) := by simp [DS.create, hB]; rfl
    rw [hB] at HNm HLn
    have HB := Lib.hid hB
    clear hB
    go_enter Try.func4, Try.ntmps4
    go_wp2_with fail
    refine (head_any _).mono ?_
    rintro e w0 ⟨rfl, hb0⟩
    have hz0 := hb0.size
    go_wp2_with fail
    refine (new_any 10 w0 (by decide) w.heap.size hz0).mono ?_
    rintro e w1 ⟨rfl, hd1, hb1⟩
    have hbw1 := hb0.trans (hb1.mono hz0)
    have hz1 := hbw1.size
    generalize hgd : w0.heap.size = gd at *
    clear hgd
    have HC := create_any w1 _ _ _ _ x hd1 HX.out hz1 (by decide)
    rw [hst] at HC
    unfold str at HC
    have HC := Lib.hid HC
    clear hst
    go_wp2_with fail
    refine (HLn.out w1).mono ?_
    rintro e w2 ⟨rfl, rfl⟩
    go_wp2_with fail
    refine (nil_fuse 1 w1).mono ?_
    rintro e w2 ⟨rfl, rfl⟩
    go_wp2_with fail
    refine (nil_crash _ w1).mono ?_
    rintro e w2 ⟨rfl, rfl⟩
    go_wp2_with fail
    refine (nil_read _ 0 1 w1).mono ?_
    rintro e w2 ⟨rfl, rfl⟩
    go_wp2_with fail
    refine (nil_size _ w1).mono ?_
    rintro e w2 ⟨rfl, rfl⟩
    go_wp2_with fail
    refine (HNm.out w1).mono ?_
    rintro e w2 ⟨rfl, rfl⟩
    go_wp2_with fail
    refine (HLn.out w1).mono ?_
    rintro e w2 ⟨rfl, rfl⟩
    go_wp2_with fail
    refine HC.out.mono ?_
    rintro e w3 ⟨rfl, hn3⟩
    obtain ⟨L3, hd3, hbw3, hz3⟩ := hn3.go hd1 hbw1 hz1
    have HLs := Lib.hid (list_any w3 _ _ _ _ hd3 (by simp))
    clear HC hn3 hd1 hbw1 hb1
    go_wp2_with fail
    refine HLs.out.mono ?_
    rintro e w4 ⟨v4, rfl, hbuf4, hb4⟩
    have hbw4 := hbw3.trans (hb4.mono hz3)
    have hz4 := hbw4.size
    obtain ⟨A4, c4, ev4, _, _⟩ := hbuf4.slice
    have ev : v4 = .slice A4 0 c4 := ev4
    subst ev
    have hmade := World.ownsMap_made w4 Try.prog 4 (plainElem (H := Unit) Try.prog 3)
    obtain ⟨w5, hmu, hown5, hg5⟩ := hmade.update (bool_keyed Try.underlying4) Try.underlying53 (by unfold maxLen; omega) (key := .bool true) (val := .int .i64 1) (keyOf_bool_mk Try.underlying4 true) (plainElem_int Try.underlying3 (by decide))
    obtain ⟨cc, hlu, hat, _⟩ := hown5.lookup_int (bool_keyed Try.underlying4) Try.underlying53 Try.underlying3 (zeroI w5) (keyOf_bool_mk Try.underlying4 false)
    have hcc : cc = 0 := by
      simp [DataW.put, DataW.insert, DataW.atKey, Lit.sameKey] at hat
      exact hat.symm
    subst hcc
    have hbw5 : Below w.heap.size w w5 := (hbw4.alloc hz4 (.map #[] 0)).grown hg5 (by simp; omega) (fun k hk => by injection hk with hk; omega)
    have hmm := @run_makeMap Try.prog
    clear hmade hown5 hg5 hat hbuf4 ev4 HLs hd3
    go_wp2_with fail
    refine (HLn.out w5).mono ?_
    rintro e w6 ⟨rfl, rfl⟩
    go_wp2_with fail
    refine (nil_create _ w5).mono ?_
    rintro e w6 ⟨rfl, rfl⟩
    go_wp2_with fail
    refine (nil_append _ _ w5).mono ?_
    rintro e w6 ⟨rfl, rfl⟩
    go_wp2_with fail
    refine (nil_sync _ w5).mono ?_
    rintro e w6 ⟨rfl, rfl⟩
    go_wp2_with fail
    refine (nil_rename _ _ w5).mono ?_
    rintro e w6 ⟨rfl, rfl⟩
    go_wp2_with fail
    refine (nil_remove _ w5).mono ?_
    rintro e w6 ⟨rfl, rfl⟩
    go_wp2_with fail
    refine (nil_spoil _ 0 1 w5).mono ?_
    rintro e w6 ⟨rfl, rfl⟩
    go_wp2_with fail
    refine (nil_list w5).mono ?_
    rintro e w6 ⟨rfl, rfl⟩
    go_wp2_with fail
    refine (nil_used w5).mono ?_
    rintro e w6 ⟨rfl, rfl⟩
    go_wp2_with fail
    refine (nil_room w5).mono ?_
    rintro e w6 ⟨rfl, rfl⟩
    go_wp2_with fail
    refine (nil_down w5).mono ?_
    rintro e w6 ⟨rfl, rfl⟩
    go_wp2_with fail
    refine (nil_clone w5).mono ?_
    rintro e w6 ⟨rfl, rfl⟩
    go_wp2_with fail
    go_ret
    exact ⟨rfl, hbw5⟩
end Go.Proofs.Ytahbhaphodgomaa
