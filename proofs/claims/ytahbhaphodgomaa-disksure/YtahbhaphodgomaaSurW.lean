/- The walk of DiskSure. -/
import Derived.Test.YtahbhaphodgomaaE7
import Derived.Deep.Slices
import Derived.ChangeSlices
namespace Go.Proofs.Ytahbhaphodgomaa
set_option linter.unusedSimpArgs false
set_option linter.unusedVariables false
open Go.RowKit Go.Maps Go.ChangeShapes Go.WideShapes Go.Deep

/-- A slice of integers that came in. -/
theorem rd_of_ints {w : World} {a : Option Addr} {len cap : Nat} {zs : List Int}
    (h : (a = none ∧ len = 0 ∧ cap = 0 ∧ zs = []) ∨ ∃ x, a = some x ∧ len ≤ cap ∧ cap ≤ maxLen ∧ zs.length = cap ∧ (∀ i, i < zs.length → w.cell? (x.add i) = some (.int .i64 (zs.getD i 0))) ∧ ∀ n ∈ zs, (Lit.int .i64 n).wf = true) :
    ∃ ks : List Int, Rd w w.heap.size a len (inB ks) ∧ (∀ k ∈ ks, -9223372036854775808 ≤ k ∧ k ≤ 9223372036854775807) ∧ ks.length = len ∧ len ≤ cap ∧ cap ≤ maxLen := by
  rcases h with ⟨rfl, rfl, rfl, rfl⟩ | ⟨x, rfl, hl, hm, hz, hc, hw⟩
  · exact ⟨[], Rd.nil, by simp, rfl, by omega, by unfold maxLen; omega⟩
  · have hb : ∀ n ∈ zs, -9223372036854775808 ≤ n ∧ n ≤ 9223372036854775807 := by
      intro n hn
      have := hw n hn
      simp [Lit.wf, IntKind.min, IntKind.max, IntKind.signed, IntKind.bits] at this
      omega
    have hlen : (zs.take len).length = len := by simp; omega
    refine ⟨zs.take len, ⟨by rw [inB, List.length_map]; exact hlen, fun hn => ?_⟩, fun k hk => hb k (List.mem_of_mem_take hk), hlen, hl, hm⟩
    obtain ⟨b, off, rfl, hc'⟩ := ints_at hc (by omega)
    refine ⟨b, off, rfl, World.block_lt_of_cell? _ _ (hc' 0 (by omega)), fun j u hu => ?_⟩
    have hj : j < len := by
      have := (List.getElem?_eq_some_iff.1 hu).1
      rw [inB, List.length_map, hlen] at this
      exact this
    rw [inB_at _ j (by omega)] at hu
    injection hu with hu
    subst hu
    rw [hc' j (by omega)]
    have hjz : j < zs.length := by omega
    simp [List.getD, hj, hjz]

structure RdK (w : World) (A : Option Addr) (n : Nat) (vs : List Value) (ds : List (List Int)) : Prop where
  rd : Rd w w.heap.size A n vs
  len : ds.length = n
  each : ∀ (j : Nat) (d : List Int), ds[j]? = some d → ∃ A' c', vs[j]? = some (.slice A' d.length c') ∧ Rd w w.heap.size A' d.length (inB d) ∧ (∀ k ∈ d, -9223372036854775808 ≤ k ∧ k ≤ 9223372036854775807) ∧ d.length ≤ c' ∧ c' ≤ maxLen
set_option maxRecDepth 100000 in
theorem open_keeps {H : Type} {enc : TypeId × Value → H} {W : World} {b0 : Nat} {r : Reach} {v : Value} {d : DataW H} {ps : List MemPlace}
    (hv : Value.okWide Try.prog W r b0 58 v) (hd : DataW.Trod enc Try.prog W 0 (fun _ => true) true 58 v d ps) :
    ∃ (A : Option Addr) (n c : Nat) (vs : List Value) (ds : List (List Int)), v = .slice A n c ∧ RdK W A n vs ds ∧ n ≤ c ∧ c ≤ maxLen := by
  obtain ⟨A, n, c, rfl⟩ := okWide_slice Try.underlying58 hv
  obtain ⟨fuel, hf⟩ := hd
  rcases open_slice1 Try.underlying58 (by kernel_rfl) hf with ⟨hcs, _⟩ | ⟨a, len, cap, m, q, V, D, Pl, hcs, _, hl, hm, hmm, _, hi⟩
  · simp [Value.cells] at hcs
    obtain ⟨rfl, rfl, rfl⟩ := hcs
    exact ⟨none, 0, 0, [], [], rfl, ⟨Rd.nil, rfl, fun j d h => by simp at h⟩, Nat.le_refl _, by unfold maxLen; omega⟩
  · simp [Value.cells] at hcs
    obtain ⟨rfl, rfl, rfl⟩ := hcs
    simp at hmm
    subst hmm
    have key : ∀ i, i < n → ∃ d : List Int, ∃ A' c', V i = .slice A' d.length c' ∧ Rd W W.heap.size A' d.length (inB d) ∧ (∀ k ∈ d, -9223372036854775808 ≤ k ∧ k ≤ 9223372036854775807) ∧ d.length ≤ c' ∧ c' ≤ maxLen := by
      intro i him
      obtain ⟨_, ht⟩ := hi i (by omega)
      have hrow : ∃ A' l' c' zs, V i = .slice A' l' c' ∧ ((A' = none ∧ l' = 0 ∧ c' = 0 ∧ zs = []) ∨ ∃ x, A' = some x ∧ l' ≤ c' ∧ c' ≤ maxLen ∧ zs.length = c' ∧ (∀ i, i < zs.length → W.cell? (x.add i) = some (.int .i64 (zs.getD i 0))) ∧ ∀ n ∈ zs, (Lit.int .i64 n).wf = true) := by
        rcases open_ints Try.underlying30 Try.underlying3 (by kernel_rfl) ht with ⟨hcs, _⟩ | ⟨x, l, c', zs, hcs, _, hl', hm', hz, _, hcell, hwz⟩
        · injection hcs with h1
          exact ⟨none, 0, 0, [], h1, .inl ⟨rfl, rfl, rfl, rfl⟩⟩
        · injection hcs with h1
          exact ⟨some x, l, c', zs, h1, .inr ⟨x, rfl, hl', hm', by simpa using hz, hcell, hwz⟩⟩
      obtain ⟨A', l', c', zs, e, hrow⟩ := hrow
      obtain ⟨bs, h1, h2, h3, h4, h5⟩ := rd_of_ints hrow
      subst h3
      exact ⟨bs, A', c', e, h1, h2, h4, h5⟩
    obtain ⟨F, hF⟩ := choose_lt key
    refine ⟨some a, n, _, (List.range n).map V, (List.range n).map F, rfl, ⟨⟨by simp, fun hn => ?_⟩, by simp, fun j d hj => ?_⟩, hl, hm⟩
    · have h0 := (hi 0 (by omega)).1
      obtain ⟨b, off, rfl⟩ : ∃ b off, a = ⟨b, off, none⟩ := by
        obtain ⟨b, off, spot⟩ := a
        have hspot : spot = none := by simpa [Addr.add] using World.cell?_spot h0
        subst hspot
        exact ⟨b, off, rfl⟩
      refine ⟨b, off, rfl, World.block_lt_of_cell? _ _ h0, fun j u hj => ?_⟩
      have hjl : j < n := by have := (List.getElem?_eq_some_iff.1 hj).1; simpa using this
      have hc := (hi j (by omega)).1
      simp [List.getElem?_map, List.getElem?_range hjl] at hj
      subst hj
      simpa only [Addr.add_lit] using hc
    · have hjl : j < n := by have := (List.getElem?_eq_some_iff.1 hj).1; simpa using this
      obtain ⟨A', c', e, h⟩ := hF j hjl
      simp [List.getElem?_map, List.getElem?_range hjl] at hj
      subst hj
      exact ⟨A', c', by simp [List.getElem?_map, List.getElem?_range hjl, e], h⟩

theorem cutN_ge (K S : Nat) (t : Int) (h : S ≤ K) : S ≤ cutN K S t := by unfold cutN; split; exact Nat.le_refl _; split <;> omega
theorem su_crash (all : List Nat) (m s lo f : Nat) (dn : Bool) (hm : m ≤ all.length) (hs : s ≤ m) (hlo : lo ≤ s) (ks : List Int) :
    ∃ m' s', (⟨[⟨[102], all.take m, s⟩], 5000, f, dn⟩ : DS).crash ks = ⟨[⟨[102], all.take m', s'⟩], 5000, 0, false⟩ ∧ m' ≤ m ∧ s' ≤ m' ∧ lo ≤ s' := by
  have hl : (all.take m).length = m := by rw [List.length_take]; omega
  by_cases h : s = m
  · refine ⟨m, s, ?_, Nat.le_refl _, hs, hlo⟩
    simp [DS.crash, crashA, hl, h]
  · have h1 := cutN_le m s (ks.headD 0) hs
    have h2 := cutN_ge m s (ks.headD 0) hs
    refine ⟨cutN m s (ks.headD 0), cutN m s (ks.headD 0), ?_, h1, Nat.le_refl _, by omega⟩
    simp only [DS.crash, crashA, hl]
    rw [if_neg h]
    simp only [cutA, hl, List.take_take]
    rw [show min (cutN m s (ks.headD 0)) m = cutN m s (ks.headD 0) by omega]
theorem su_read (all : List Nat) (m s : Nat) (hm : m ≤ all.length) (hb : m ≤ 2000) : (⟨[⟨[102], all.take m, s⟩], 5000, 0, false⟩ : DS).read [102] 0 2000 = (all.take m, 0) := by
  have hl : (all.take m).length = m := by rw [List.length_take]; omega
  simp only [DS.read, lookA]
  rw [if_neg (by simp)]
  have h2 : (all.take m).take 2000 = all.take m := List.take_of_length_le (by omega)
  simp only [List.find?_cons, beq_self_eq_true]
  rw [if_neg (by rw [hl]; omega)]
  simp only [Int.toNat_zero, List.drop_zero]
  rw [show ((2000 : Int)).toNat = 2000 from rfl, h2]
theorem su_s1 : (⟨[], clamp 5000, 0, false⟩ : DS).create [102] = (⟨[⟨[102], [], 0⟩], 5000, 0, false⟩, 0) := by rfl
theorem su_s2 (b : List Nat) (hb : b.length ≤ 500) : (⟨[⟨[102], [], 0⟩], 5000, 0, false⟩ : DS).append [102] b = (⟨[⟨[102], b, 0⟩], 5000, 0, false⟩, 0) := by
  have : ¬ 5000 < b.length := by omega
  simp [DS.append, lookA, usedA, setA, DS.step, this]
theorem su_s3 (b : List Nat) : (⟨[⟨[102], b, 0⟩], 5000, 0, false⟩ : DS).sync [102] = (⟨[⟨[102], b, b.length⟩], 5000, 0, false⟩, 0) := by
  simp [DS.sync, lookA, setA, DS.step]
theorem su_s4 (b m : List Nat) (hb : b.length ≤ 500) (hm : m.length ≤ 500) : (⟨[⟨[102], b, b.length⟩], 5000, 0, false⟩ : DS).append [102] m = (⟨[⟨[102], b ++ m, b.length⟩], 5000, 0, false⟩, 0) := by
  have : ¬ 5000 < b.length + m.length := by omega
  simp [DS.append, lookA, usedA, setA, DS.step, this]
theorem strB_front (s : List Nat) (m : Nat) (hm : m ≤ s.length) : (strB s).extract 0 m = strB (s.take m) := by
  apply ByteArray.ext
  simp [ByteArray.data_extract, strB, List.map_take]
theorem Dk.apart {w : World} {base gd : Nat} {L : List Nat} {s : DS} (h : Dk w base gd L s) {A : Option Addr} {n : Nat} {xs : List Value} {w0 : World} (hr : Rd w0 base A n xs) : ∀ g off, A = some ⟨g, off, none⟩ → 0 < n → g ∉ L := by
  intro g off e h0 hm
  have h1 := hr.own e h0
  have h2 := (h.low g hm).1
  omega

set_option maxHeartbeats 400000 in
theorem sure_early (A B C : Option Addr) (n m k c d e' : Nat) (w : World) (h : (500 : Int) < (n : Int) ∨ (500 : Int) < (m : Int) ∨ (10 : Int) < (k : Int)) :
    Calls Try.prog 6 #[.slice A n c, .slice B m d, .slice C k e'] w fun e w' => e = .returned (.bool true) ∧ Below w.heap.size w w' := by
  by_cases h1 : (500 : Int) < (n : Int)
  · go_enter Try.func6, Try.ntmps6
    go_wp2_with fail
    refine (head_any _).mono ?_
    rintro e w1 ⟨rfl, hb1⟩
    go_wp2_with fail
    go_ret
    exact ⟨rfl, hb1⟩
  · have h1' : decide ((500 : Int) < (n : Int)) = false := by simp; omega
    by_cases h2 : (500 : Int) < (m : Int)
    · go_enter Try.func6, Try.ntmps6
      go_wp2_with fail
      refine (head_any _).mono ?_
      rintro e w1 ⟨rfl, hb1⟩
      go_wp2_with fail
      go_ret
      exact ⟨rfl, hb1⟩
    · have h2' : decide ((500 : Int) < (m : Int)) = false := by simp; omega
      have h3 : (10 : Int) < (k : Int) := by omega
      go_enter Try.func6, Try.ntmps6
      go_wp2_with fail
      refine (head_any _).mono ?_
      rintro e w1 ⟨rfl, hb1⟩
      go_wp2_with fail
      go_ret
      exact ⟨rfl, hb1⟩

set_option maxHeartbeats 4000000 in
set_option maxRecDepth 100000 in
theorem sure_walk (A B C : Option Addr) (n m k c d e' : Nat) (b mo : List Nat) (vs : List Value) (ds : List (List Int)) (w : World) (ha : Rd w w.heap.size A n (bys b)) (hb : Rd w w.heap.size B m (bys mo)) (hab : ∀ c ∈ b, c < 256) (hbb : ∀ c ∈ mo, c < 256) (hK : RdK w C k vs ds)
    (hn : (n : Int) ≤ 500) (hm : (m : Int) ≤ 500) (hk : (k : Int) ≤ 10) :
    Calls Try.prog 6 #[.slice A n c, .slice B m d, .slice C k e'] w fun e w' => e = .returned (.bool true) ∧ Below w.heap.size w w' := by
  have hal : b.length = n := by have := ha.1; rwa [bys_len] at this
  have hbl : mo.length = m := by have := hb.1; rwa [bys_len] at this
  have HAL := Lib.hid hal
  have HBL := Lib.hid hbl
  have hd1' : decide ((500 : Int) < (n : Int)) = false := by simp; omega
  have hd2' : decide ((500 : Int) < (m : Int)) = false := by simp; omega
  have hd3' : decide ((10 : Int) < (k : Int)) = false := by simp; omega
  have HA := Lib.hid ha
  have HB := Lib.hid hb
  have HAB := Lib.hid hab
  have HBB := Lib.hid hbb
  have HKK := Lib.hid hK
  have HAN : Hid (b.length ≤ 500) := Lib.hid (by omega)
  have HBN : Hid (mo.length ≤ 500) := Lib.hid (by omega)
  clear ha hb hab hbb hal hbl hK
  go_enter Try.func6, Try.ntmps6
  go_wp2_with fail
  refine (head_any _).mono ?_
  rintro e w0 ⟨rfl, hb0⟩
  have hz0 := hb0.size
  go_wp2_with fail
  refine (new_any 5000 w0 (by decide) w.heap.size hz0).mono ?_
  rintro e w1 ⟨rfl, hd1, hb1⟩
  have hbw1 := hb0.trans (hb1.mono hz0)
  have hz1 := hbw1.size
  have HC := create_any w1 _ _ _ _ [102] hd1 (by decide) hz1 (by decide)
  rw [su_s1] at HC
  unfold str at HC
  generalize hgd : w0.heap.size = gd at *
  clear hgd
  go_wp2_with fail
  refine HC.mono ?_
  rintro e w2 ⟨rfl, hn2⟩
  obtain ⟨L2, hd2, hbw2, hz2⟩ := hn2.go hd1 hbw1 hz1
  have HP := append_any w2 _ _ _ _ [102] A n c b hd2 (by decide) hz2 ((HA.out.below hbw2).up hz2) HAB.out (by omega) (hd2.apart HA.out)
  rw [su_s2 b HAN.out] at HP
  unfold str at HP
  clear HC hn2 hd1 hbw1 hb1
  go_wp2_with fail
  refine HP.mono ?_
  rintro e w3 ⟨rfl, hn3⟩
  obtain ⟨L3, hd3, hbw3, hz3⟩ := hn3.go hd2 hbw2 hz2
  have HS := sync_any w3 _ _ _ _ [102] hd3 (by decide) hz3
  rw [su_s3 b] at HS
  unfold str at HS
  clear HP hn3 hd2 hbw2
  go_wp2_with fail
  refine HS.mono ?_
  rintro e w4 ⟨rfl, hn4⟩
  obtain ⟨L4, hd4, hbw4, hz4⟩ := hn4.go hd3 hbw3 hz3
  have HP := append_any w4 _ _ _ _ [102] B m d mo hd4 (by decide) hz4 ((HB.out.below hbw4).up hz4) HBB.out (by omega) (hd4.apart HB.out)
  rw [su_s4 b mo HAN.out HBN.out] at HP
  unfold str at HP
  clear HS hn4 hd3 hbw3
  go_wp2_with fail
  refine HP.mono ?_
  rintro e w5 ⟨rfl, hn5⟩
  obtain ⟨L5, hd5, hbw5, hz5⟩ := hn5.go hd4 hbw4 hz4
  have cv1 := run_conv (P := Try.prog) c (HA.out.below hbw5) 29 9 5 Try.underlying29 Try.underlying5 Try.underlying9
  have cv2 := run_conv (P := Try.prog) d (HB.out.below hbw5) 29 9 5 Try.underlying29 Try.underlying5 Try.underlying9
  have happ := strB_app b mo
  have hsz1 : (strB b).size = n := by rw [strB_size, HAL.out]
  have hsz2 : (strB mo).size = m := by rw [strB_size, HBL.out]
  have hszA : (strB (b ++ mo)).size = n + m := by rw [strB_size, List.length_append, HAL.out, HBL.out]
  have hcst : ((n + m : Nat) : Int) = (n : Int) + (m : Int) := by omega
  clear HP hn5 hd4 hbw4
  have HALL : Hid ((b ++ mo).length = n + m) := Lib.hid (by rw [List.length_append, HAL.out, HBL.out])
  have hd5' : Dk w5 w.heap.size gd L5 ⟨[⟨[102], (b ++ mo).take (n + m), n⟩], 5000, 0, false⟩ := by rw [List.take_of_length_le (by rw [HALL.out]; exact Nat.le_refl _), ← HAL.out]; exact hd5
  clear hd5
  go_upto_region 10 with fail
  clear cv1 cv2 happ hsz1 hsz2
  obtain ⟨T, HTT⟩ : ∃ T, Hid (T = n + m) := ⟨_, Lib.hid rfl⟩
  rw [← hcst, ← HTT.out]
  rw [← HTT.out] at hd5' hszA HALL
  obtain ⟨all, HAll⟩ : ∃ all, Hid (all = b ++ mo) := ⟨_, Lib.hid rfl⟩
  rw [← HAll.out] at hd5' hszA HALL ⊢
  have HALB : Hid (∀ c ∈ all, c < 256) := Lib.hid (by
    rw [HAll.out]
    intro c hc
    rcases List.mem_append.1 hc with h | h
    · exact HAB.out c h
    · exact HBB.out c h)
  have hTb : (T : Int) ≤ 1000 := by have := HTT.out; omega
  have hnT : n ≤ T := by have := HTT.out; omega
  clear hcst
  go_wp2_with fail
  go_loopg [9, 59] k (fun mm lv i wr => ∃ (j M S : Nat) (L : List Nat), mm = k - j ∧ j ≤ k ∧ i = .int .i64 (j : Int) ∧ lv = .int .i64 (M : Int) ∧ Dk wr w.heap.size gd L ⟨[⟨[102], all.take M, S⟩], 5000, 0, false⟩ ∧ M ≤ T ∧ S ≤ M ∧ n ≤ S ∧ Below w.heap.size w wr)
  case atStart => exact ⟨0, T, n, L5, rfl, Nat.zero_le _, rfl, rfl, hd5', Nat.le_refl _, hnT, Nat.le_refl _, hbw5⟩
  case round =>
    clear hd5' hbw5
    obtain ⟨j, M, S, L, hmm, hj, rfl, rfl, hdk, hMT, hSM, hnS, hbw⟩ := hrel
    have HM := Lib.hid hmm
    clear hmm
    have hz := hbw.size
    by_cases hlt : j < k
    · have hlt' : (j : Int) < (k : Int) := by omega
      have hjd : j < ds.length := by rw [HKK.out.len]; exact hlt
      obtain ⟨Aj, cj, hvj, hrj, hdb, hjc, hjm⟩ := HKK.out.each j _ (List.getElem?_eq_getElem hjd)
      have hrl := HKK.out.rd.below hbw
      obtain ⟨g, off, u, rfl, hgB, hu, hcell⟩ := hrl.at_ (k := j) hlt
      rw [hvj] at hu
      injection hu with hu
      subst hu
      have HCr := Lib.hid (crash_any wr _ _ _ _ Aj _ cj ds[j] hdk hz (by simp) ((hrj.below hbw).up hz) hdb hjc hjm (hdk.apart hrj))
      obtain ⟨M2, S2, ecr, hM2, hS2, hn2⟩ := su_crash all M S n 0 false (by rw [HALL.out]; exact hMT) hSM hnS ds[j]
      rw [ecr] at HCr
      generalize ds[j] = dj at *
      clear hvj hrl hrj hdb ecr
      go_wp2_with fail
      refine HCr.out.mono ?_
      rintro e w6 ⟨rfl, hn6⟩
      obtain ⟨L6, hd6, hbw6, hz6⟩ := hn6.go hdk hbw hz
      have HRd := read_any w6 _ _ _ _ [102] 0 2000 hd6 (by decide) (by decide) (by decide)
      rw [su_read all M2 S2 (by rw [HALL.out]; omega) (by omega)] at HRd
      unfold str at HRd
      have HRd := Lib.hid HRd
      clear HCr hn6 hdk hbw
      go_wp2_with fail
      refine HRd.out.mono ?_
      rintro e w7 ⟨v7, rfl, hbuf7, hb7⟩
      have hd7 := hd6.below hb7
      have hbw7 := hbw6.trans (hb7.mono hz6)
      have hl2 : (all.take M2).length = M2 := by rw [List.length_take, HALL.out]; omega
      obtain ⟨A7, c7, ev7, _, hr7⟩ := hbuf7.slice
      have ev : v7 = .slice A7 M2 c7 := by rw [ev7]; simp only [hl2]
      have hr7 : Rd w7 w7.heap.size A7 M2 (bys (all.take M2)) := by have := hr7; simp only [hl2] at this; exact this
      subst ev
      have cv := run_conv (P := Try.prog) c7 hr7 29 9 5 Try.underlying29 Try.underlying5 Try.underlying9
      have hex := strB_front all M2 (by rw [HALL.out]; omega)
      have hsame := strB_same (all.take M2)
      have HL2 := Lib.hid hl2
      have HR7 := Lib.hid hr7
      clear HRd hd6 hbw6 hbuf7 ev7 hl2 hr7
      have HCVX := Lib.hid (run_conv (P := Try.prog) c7 HR7.out.drew 29 9 5 Try.underlying29 Try.underlying5 Try.underlying9)
      generalize strB (all.take M2) = TX at *
      have hslS : ∀ wx : World, (Instr.slice 9 (.string (strB all)) none (some (.int .i64 (M2 : Int))) none).run Try.prog wx = .ok (.string TX) wx := by
        intro wx
        have e1 : (Instr.sliceBound (.int .i64 (M2 : Int)) (strB all).size .sliceAlen).run Try.prog wx = .ok M2 wx := by simp [Instr.sliceBound, asIntOf, hszA]; omega
        simp [Instr.slice, run_underlying Try.underlying9, Instr.sliceBounds, e1, hex]
      have g1 : decide ((M2 : Int) < (n : Int)) = false := by simp; omega
      have g2 : decide ((M : Int) < (M2 : Int)) = false := by simp; omega
      have g3 : ¬ ((M2 : Int) < (n : Int)) := by omega
      have g4 : ¬ ((M : Int) < (M2 : Int)) := by omega
      have g5 : (M2 : Int) ≤ (T : Int) := by omega
      go_wp2_with fail
      refine wp_region_noPanic ?_
      refine wp_region_held_drew (S := (fun w' => (convert 29 9 (.slice A7 M2 c7)).run Try.prog w' = .ok (.string TX) w' ∧ Below w.heap.size w w' ∧ Dk w' w.heap.size gd L6 ⟨[⟨[102], all.take M2, S2⟩], 5000, 0, false⟩)) (by kernel_rfl) (⟨by exact HCVX.out, hbw7.drew, hd7.drew⟩) (fun hHeld => ?_)
      refine wpAnyH_take (i := 0) (v := ?_) (by simp only [List.getElem?_toArray, List.getElem?_cons_succ, List.getElem?_cons_zero]; rfl) (by kernel_rfl) (by kernel_rfl) (by kernel_rfl) (fun _ _ _ h => h) (Or.inl ⟨by rfl, ?_⟩) (by assumption) ?_
      rotate_left
      · (intro w hSw; (try dsimp only at hSw); go_simp; (try with_reducible rfl))
      (try simp only [Act.put, List.setIfInBounds_toArray, List.set_cons_zero, List.set_cons_succ])
      refine wpAnyH_take (i := 1) (v := .bool false) (by simp only [List.getElem?_toArray, List.getElem?_cons_succ, List.getElem?_cons_zero]; rfl) (by kernel_rfl) (by kernel_rfl) (by kernel_rfl) (fun _ _ _ h => h) (Or.inl ⟨by rfl, ?_⟩) (by assumption) ?_
      · (intro w hSw; (try dsimp only at hSw); go_simp; (try simp))
      (try simp only [Act.put, List.setIfInBounds_toArray, List.set_cons_zero, List.set_cons_succ])
      refine wpAnyH_take (i := 2) (v := ?_) (by simp only [List.getElem?_toArray, List.getElem?_cons_succ, List.getElem?_cons_zero]; rfl) (by kernel_rfl) (by kernel_rfl) (by kernel_rfl) (fun _ _ _ h => h) (Or.inl ⟨by rfl, ?_⟩) (by assumption) ?_
      rotate_left
      · (intro w hSw; (try dsimp only at hSw); go_simp; (try with_reducible rfl))
      (try simp only [Act.put, List.setIfInBounds_toArray, List.set_cons_zero, List.set_cons_succ])
      refine wpAnyH_take (i := 3) (v := ?_) (by simp only [List.getElem?_toArray, List.getElem?_cons_succ, List.getElem?_cons_zero]; rfl) (by kernel_rfl) (by kernel_rfl) (by kernel_rfl) (fun _ _ _ h => h) (Or.inl ⟨by rfl, ?_⟩) (by assumption) ?_
      rotate_left
      · (intro w hSw; (try dsimp only at hSw); go_simp; (try with_reducible rfl))
      (try simp only [Act.put, List.setIfInBounds_toArray, List.set_cons_zero, List.set_cons_succ])
      refine wpAnyH_take (i := 4) (v := ?_) (by simp only [List.getElem?_toArray, List.getElem?_cons_succ, List.getElem?_cons_zero]; rfl) (by kernel_rfl) (by kernel_rfl) (by kernel_rfl) (fun _ _ _ h => h) (Or.inl ⟨by rfl, ?_⟩) (by assumption) ?_
      rotate_left
      · (intro w hSw; (try dsimp only at hSw); go_simp; (try with_reducible rfl))
      (try simp only [Act.put, List.setIfInBounds_toArray, List.set_cons_zero, List.set_cons_succ])
      refine wpAnyH_take (i := 5) (v := ?_) (by simp only [List.getElem?_toArray, List.getElem?_cons_succ, List.getElem?_cons_zero]; rfl) (by kernel_rfl) (by kernel_rfl) (by kernel_rfl) (fun _ _ _ h => h) (Or.inl ⟨by rfl, ?_⟩) (by assumption) ?_
      rotate_left
      · (intro w hSw; (try dsimp only at hSw); go_simp; (try with_reducible rfl))
      (try simp only [Act.put, List.setIfInBounds_toArray, List.set_cons_zero, List.set_cons_succ])
      refine wpAnyH_take (i := 6) (v := ?_) (by simp only [List.getElem?_toArray, List.getElem?_cons_succ, List.getElem?_cons_zero]; rfl) (by kernel_rfl) (by kernel_rfl) (by kernel_rfl) (fun _ _ _ h => h) (Or.inl ⟨by rfl, ?_⟩) (by assumption) ?_
      rotate_left
      · (intro w hSw; (try dsimp only at hSw); go_simp; (try with_reducible rfl))
      (try simp only [Act.put, List.setIfInBounds_toArray, List.set_cons_zero, List.set_cons_succ])
      refine wpAnyH_take (i := 7) (v := .bool false) (by simp only [List.getElem?_toArray, List.getElem?_cons_succ, List.getElem?_cons_zero]; rfl) (by kernel_rfl) (by kernel_rfl) (by kernel_rfl) (fun _ _ _ h => h) (Or.inl ⟨by rfl, ?_⟩) (by assumption) ?_
      · (intro w hSw; (try dsimp only at hSw); go_simp; (try simp [g3]); (try omega))
      (try simp only [Act.put, List.setIfInBounds_toArray, List.set_cons_zero, List.set_cons_succ])
      refine wpAnyH_take (i := 8) (v := ?_) (by simp only [List.getElem?_toArray, List.getElem?_cons_succ, List.getElem?_cons_zero]; rfl) (by kernel_rfl) (by kernel_rfl) (by kernel_rfl) (fun _ _ _ h => h) (Or.inl ⟨by rfl, ?_⟩) (by assumption) ?_
      rotate_left
      · (intro w hSw; (try dsimp only at hSw); go_simp; (try with_reducible rfl))
      (try simp only [Act.put, List.setIfInBounds_toArray, List.set_cons_zero, List.set_cons_succ])
      refine wpAnyH_take (i := 9) (v := ?_) (by simp only [List.getElem?_toArray, List.getElem?_cons_succ, List.getElem?_cons_zero]; rfl) (by kernel_rfl) (by kernel_rfl) (by kernel_rfl) (fun _ _ _ h => h) (Or.inl ⟨by rfl, ?_⟩) (by assumption) ?_
      rotate_left
      · (intro w hSw; (try dsimp only at hSw); go_simp; (try with_reducible rfl))
      (try simp only [Act.put, List.setIfInBounds_toArray, List.set_cons_zero, List.set_cons_succ])
      refine wpAnyH_take (i := 10) (v := ?_) (by simp only [List.getElem?_toArray, List.getElem?_cons_succ, List.getElem?_cons_zero]; rfl) (by kernel_rfl) (by kernel_rfl) (by kernel_rfl) (fun _ _ _ h => h) (Or.inl ⟨by rfl, ?_⟩) (by assumption) ?_
      rotate_left
      · (intro w hSw; (try dsimp only at hSw); go_simp; (try with_reducible rfl))
      (try simp only [Act.put, List.setIfInBounds_toArray, List.set_cons_zero, List.set_cons_succ])
      refine wpAnyH_take (i := 11) (v := ?_) (by simp only [List.getElem?_toArray, List.getElem?_cons_succ, List.getElem?_cons_zero]; rfl) (by kernel_rfl) (by kernel_rfl) (by kernel_rfl) (fun _ _ _ h => h) (Or.inl ⟨by rfl, ?_⟩) (by assumption) ?_
      rotate_left
      · (intro w hSw; (try dsimp only at hSw); go_simp; (try with_reducible rfl))
      (try simp only [Act.put, List.setIfInBounds_toArray, List.set_cons_zero, List.set_cons_succ])
      refine wpAnyH_take (i := 12) (v := ?_) (by simp only [List.getElem?_toArray, List.getElem?_cons_succ, List.getElem?_cons_zero]; rfl) (by kernel_rfl) (by kernel_rfl) (by kernel_rfl) (fun _ _ _ h => h) (Or.inl ⟨by rfl, ?_⟩) (by assumption) ?_
      rotate_left
      · (intro w hSw; (try dsimp only at hSw); go_simp; (try with_reducible rfl))
      (try simp only [Act.put, List.setIfInBounds_toArray, List.set_cons_zero, List.set_cons_succ])
      refine wpAnyH_take (i := 13) (v := .bool false) (by simp only [List.getElem?_toArray, List.getElem?_cons_succ, List.getElem?_cons_zero]; rfl) (by kernel_rfl) (by kernel_rfl) (by kernel_rfl) (fun _ _ _ h => h) (Or.inl ⟨by rfl, ?_⟩) (by assumption) ?_
      · (intro w hSw; (try dsimp only at hSw); go_simp; (try simp [g4]); (try omega))
      (try simp only [Act.put, List.setIfInBounds_toArray, List.set_cons_zero, List.set_cons_succ])
      refine wpAnyH_take (i := 14) (v := ?_) (by simp only [List.getElem?_toArray, List.getElem?_cons_succ, List.getElem?_cons_zero]; rfl) (by kernel_rfl) (by kernel_rfl) (by kernel_rfl) (fun _ _ _ h => h) (Or.inl ⟨by rfl, ?_⟩) (by assumption) ?_
      rotate_left
      · (intro w hSw; (try dsimp only at hSw); go_simp; (try with_reducible rfl))
      (try simp only [Act.put, List.setIfInBounds_toArray, List.set_cons_zero, List.set_cons_succ])
      refine wpAnyH_take (i := 15) (v := ?_) (by simp only [List.getElem?_toArray, List.getElem?_cons_succ, List.getElem?_cons_zero]; rfl) (by kernel_rfl) (by kernel_rfl) (by kernel_rfl) (fun _ _ _ h => h) (Or.inl ⟨by rfl, ?_⟩) (by assumption) ?_
      rotate_left
      · (intro w hSw; (try dsimp only at hSw); go_simp; (try with_reducible rfl))
      (try simp only [Act.put, List.setIfInBounds_toArray, List.set_cons_zero, List.set_cons_succ])
      refine wpAnyH_take (i := 16) (v := ?_) (by simp only [List.getElem?_toArray, List.getElem?_cons_succ, List.getElem?_cons_zero]; rfl) (by kernel_rfl) (by kernel_rfl) (by kernel_rfl) (fun _ _ _ h => h) (Or.inl ⟨by rfl, ?_⟩) (by assumption) ?_
      rotate_left
      · (intro w hSw; (try dsimp only at hSw); go_simp; (try with_reducible rfl))
      (try simp only [Act.put, List.setIfInBounds_toArray, List.set_cons_zero, List.set_cons_succ])
      refine wpAnyH_take (i := 17) (v := .string TX) (by simp only [List.getElem?_toArray, List.getElem?_cons_succ, List.getElem?_cons_zero]; rfl) (by kernel_rfl) (by kernel_rfl) (by kernel_rfl) (fun _ _ _ h => h) (Or.inl ⟨by rfl, ?_⟩) (by assumption) ?_
      · (intro w hSw; (try dsimp only at hSw); go_simp; (try simp))
      (try simp only [Act.put, List.setIfInBounds_toArray, List.set_cons_zero, List.set_cons_succ])
      refine wpAnyH_take (i := 18) (v := ?_) (by simp only [List.getElem?_toArray, List.getElem?_cons_succ, List.getElem?_cons_zero]; rfl) (by kernel_rfl) (by kernel_rfl) (by kernel_rfl) (fun _ _ _ h => h) (Or.inl ⟨by rfl, ?_⟩) (by assumption) ?_
      rotate_left
      · (intro w hSw; (try dsimp only at hSw); go_simp; (try with_reducible rfl))
      (try simp only [Act.put, List.setIfInBounds_toArray, List.set_cons_zero, List.set_cons_succ])
      refine wpAnyH_take (i := 19) (v := ?_) (by simp only [List.getElem?_toArray, List.getElem?_cons_succ, List.getElem?_cons_zero]; rfl) (by kernel_rfl) (by kernel_rfl) (by kernel_rfl) (fun _ _ _ h => h) (Or.inl ⟨by rfl, ?_⟩) (by assumption) ?_
      rotate_left
      · (intro w hSw; (try dsimp only at hSw); go_simp; (try with_reducible rfl))
      (try simp only [Act.put, List.setIfInBounds_toArray, List.set_cons_zero, List.set_cons_succ])
      refine wpAnyH_take (i := 20) (v := ?_) (by simp only [List.getElem?_toArray, List.getElem?_cons_succ, List.getElem?_cons_zero]; rfl) (by kernel_rfl) (by kernel_rfl) (by kernel_rfl) (fun _ _ _ h => h) (Or.inl ⟨by rfl, ?_⟩) (by assumption) ?_
      rotate_left
      · (intro w hSw; (try dsimp only at hSw); go_simp; (try with_reducible rfl))
      (try simp only [Act.put, List.setIfInBounds_toArray, List.set_cons_zero, List.set_cons_succ])
      refine wpAnyH_take (i := 21) (v := .string TX) (by simp only [List.getElem?_toArray, List.getElem?_cons_succ, List.getElem?_cons_zero]; rfl) (by kernel_rfl) (by kernel_rfl) (by kernel_rfl) (fun _ _ _ h => h) (Or.inl ⟨by rfl, ?_⟩) (by assumption) ?_
      · (intro w hSw; (try dsimp only at hSw); go_simp; (try simp [hslS]))
      (try simp only [Act.put, List.setIfInBounds_toArray, List.set_cons_zero, List.set_cons_succ])
      refine wpAnyH_take (i := 22) (v := .bool false) (by simp only [List.getElem?_toArray, List.getElem?_cons_succ, List.getElem?_cons_zero]; rfl) (by kernel_rfl) (by kernel_rfl) (by kernel_rfl) (fun _ _ _ h => h) (Or.inl ⟨by rfl, ?_⟩) (by assumption) ?_
      · (intro w hSw; (try dsimp only at hSw); go_simp; (try simp))
      (try simp only [Act.put, List.setIfInBounds_toArray, List.set_cons_zero, List.set_cons_succ])
      refine wpAnyH_take (i := 23) (v := ?_) (by simp only [List.getElem?_toArray, List.getElem?_cons_succ, List.getElem?_cons_zero]; rfl) (by kernel_rfl) (by kernel_rfl) (by kernel_rfl) (fun _ _ _ h => h) (Or.inl ⟨by rfl, ?_⟩) (by assumption) ?_
      rotate_left
      · (intro w hSw; (try dsimp only at hSw); go_simp; (try with_reducible rfl))
      (try simp only [Act.put, List.setIfInBounds_toArray, List.set_cons_zero, List.set_cons_succ])
      refine wpAnyH_done (by kernel_rfl) ?_ _
      refine NoPanic.normal ?_
      obtain ⟨_, hbw8, hd8⟩ := hHeld
      go_wp2_with fail
      go_roundg (k - (j + 1))
      case measure => have := HM.out; omega
      case rel => exact ⟨j + 1, M2, S2, L6, rfl, by omega, by go_num, rfl, hd8, by omega, hS2, hn2, hbw8⟩
    · have hlt' : decide ((j : Int) < (k : Int)) = false := by simp; omega
      clear hdk
      go_wp2_with fail
      go_ret
      exact ⟨rfl, hbw⟩
end Go.Proofs.Ytahbhaphodgomaa
