/- The walk of KeyGets. -/
import Derived.Test.YtahbhaphodgomacGetM
namespace Go.Proofs.Ytahbhaphodgomac
set_option linter.unusedSimpArgs false
set_option linter.unusedVariables false
open Go.RowKit

set_option maxHeartbeats 1000000 in
theorem gets_long (A : Option Addr) (n c : Nat) (h : (400 : Int) < (n : Int)) (w : World) :
    Calls Try.prog 7 #[.slice A n c] w fun e w' => e = .returned (.bool true) ∧ Below w.heap.size w w' := by
  go_enter Try.func7, Try.ntmps7
  go_wp2_with fail
  refine (head_any _).mono ?_
  rintro e w1 ⟨rfl, hb1⟩
  go_wp2_with fail
  go_ret
  exact ⟨rfl, hb1⟩

/-- What the region reads: the entry's box, and the bytes. -/
structure GS (w0 w : World) (g : Nat) (A : Option Addr) (n c : Nat) (bs : List Nat) (N : Nat) (T : ByteArray) (K : List Nat) (S : Nat) (D : Bool) (V : List Nat) : Prop where
  box : At4 w g (.string (strB K)) (.int .u64 (S : Int)) (.bool D) (.string (strB V))
  rd : Rd w w0.heap.size A n (bys bs)
  bel : Below w0.heap.size w0 w
  txt : T = strB (bs.take N)
  le : N ≤ n
theorem GS.all {w0 w : World} {g : Nat} {A : Option Addr} {n c : Nat} {bs : List Nat} {N : Nat} {T : ByteArray} {K : List Nat} {S : Nat} {D : Bool} {V : List Nat} (h : GS w0 w g A n c bs N T K S D V) :
    w.cell? ⟨g, 0, none⟩ = some (.string (strB K)) ∧ w.cell? ⟨g, 1, none⟩ = some (.int .u64 (S : Int)) ∧ w.cell? ⟨g, 2, none⟩ = some (.bool D) ∧ w.cell? ⟨g, 3, none⟩ = some (.string (strB V)) ∧ (convert 33 9 (.slice A N c)).run Try.prog w = .ok (.string T) w ∧ GS w0 w g A n c bs N T K S D V := by
  refine ⟨h.box.c0, h.box.c1, h.box.c2, h.box.c3, ?_, h⟩
  have hr := h.rd.take N h.le
  rw [← bys_take] at hr
  rw [h.txt]
  exact run_conv (P := Try.prog) c hr 33 9 5 Try.underlying33 Try.underlying5 Try.underlying9
theorem GS.again {w0 w w' : World} {g : Nat} {A : Option Addr} {n c : Nat} {bs : List Nat} {N : Nat} {T : ByteArray} {K : List Nat} {S : Nat} {D : Bool} {V : List Nat} (h : GS w0 w g A n c bs N T K S D V) (hb : Below w.heap.size w w') :
    w'.cell? ⟨g, 0, none⟩ = some (.string (strB K)) ∧ w'.cell? ⟨g, 1, none⟩ = some (.int .u64 (S : Int)) ∧ w'.cell? ⟨g, 2, none⟩ = some (.bool D) ∧ w'.cell? ⟨g, 3, none⟩ = some (.string (strB V)) ∧ (convert 33 9 (.slice A N c)).run Try.prog w' = .ok (.string T) w' ∧ GS w0 w' g A n c bs N T K S D V :=
  GS.all ⟨h.box.below hb h.box.lt, h.rd.below (hb.mono h.bel.size), h.bel.trans (hb.mono h.bel.size), h.txt, h.le⟩
theorem GS.drew {w0 w : World} {g : Nat} {A : Option Addr} {n c : Nat} {bs : List Nat} {N : Nat} {T : ByteArray} {K : List Nat} {S : Nat} {D : Bool} {V : List Nat} (h : GS w0 w g A n c bs N T K S D V) : GS w0 w.drew g A n c bs N T K S D V :=
  ⟨h.box.drew, h.rd.drew, h.bel.drew, h.txt, h.le⟩

set_option maxHeartbeats 2000000 in
set_option maxRecDepth 100000 in
theorem gets_walk (A : Option Addr) (n c : Nat) (bs : List Nat) (w : World) (hr : Rd w w.heap.size A n (bys bs)) (hb : ∀ c ∈ bs, c < 256) (hn : (n : Int) ≤ 400) (hc : n ≤ c) (hcm : c ≤ maxLen) :
    Calls Try.prog 7 #[.slice A n c] w fun e w' => e = .returned (.bool true) ∧ Below w.heap.size w w' := by
  have hbl : bs.length = n := by have := hr.1; rwa [bys_len] at this
  obtain ⟨K, V, S, D, N, E, hans, hcall⟩ := get_all bs hb (by omega)
  have HANS := Lib.hid hans
  have HC := Lib.hid hcall
  have HR0 := Lib.hid hr
  have HB := Lib.hid hb
  have HBL := Lib.hid hbl
  have hd4 : decide ((400 : Int) < (n : Int)) = false := by simp; omega
  clear hans hcall hb hbl
  unfold ent at HC
  go_enter Try.func7, Try.ntmps7
  go_wp2_with fail
  refine (head_any _).mono ?_
  rintro e w1 ⟨rfl, hb1⟩
  have hr1 := hr.below hb1
  have hs1 := hb1.size
  go_wp2_with fail
  refine (HC.out A n c w1 _ hs1 hr1 hc hcm).mono ?_
  rintro e w2 ⟨rfl, hb2⟩
  have hr2 := hr1.below (hb2.mono hs1)
  have hbel := hb1.trans (hb2.mono hs1)
  have a3 := At4.new w2 (.string (strB K)) (.int .u64 (S : Int)) (.bool D) (.string (strB V)) 24
  have hbel3 := hbel.alloc hbel.size (.cells #[.string (strB K), .int .u64 (S : Int), .bool D, .string (strB V)] 24)
  have hr3 := hr.below hbel3
  clear hb1 hb2 hr1 hr2 hr hs1
  by_cases hE : E = 0
  · subst hE
    obtain ⟨hok, hck, hent, hNl, hK, hV, hNN, ht1, ht2⟩ := HANS.out.ok rfl
    have HOK := Lib.hid hok
    have HK := Lib.hid hK
    have HV := Lib.hid hV
    have c0 := chk0 _ _ _ _ hck
    have HVL : Hid (V.length ≤ 100000) := Lib.hid (by have := c0.2.2.2.1; rw [strB_size] at this; omega)
    have HKM : (strB K).size ≤ maxLen := by have := c0.2.1; unfold maxLen; omega
    have HVM : (strB V).size ≤ maxLen := by have := c0.2.2.2.1; unfold maxLen; omega
    have hck2 := check_any (strB K) S D (strB V) HKM HVM
    rw [hck] at hck2
    have HCK := Lib.hid hck2
    have HPUT := Lib.hid (fun wx : World => entPut_any K HK.out S D V HV.out (by have := HOK.out.2.1; omega) HVL.out HOK.out.2.2 wx wx.heap.size (Buf.nil wx _) (by omega) (Nat.le_refl _))
    obtain ⟨T, HT⟩ : ∃ T, Hid (strB (entB K S D V) = T) := ⟨_, Lib.hid rfl⟩
    have hT2 : T = strB (bs.take N) := by rw [← HT.out, hent]
    have hNn : N ≤ n := by rw [HBL.out] at hNl; exact hNl
    have HNN := Lib.hid hNN
    have HT1 := Lib.hid ht1
    have HT2' := Lib.hid ht2
    obtain ⟨i0, hi, hz0, hz1, hz2⟩ := info_parts Try.info5
    have hslh : ∀ wx : World, (Instr.slice 33 (.slice A n c) none (some (.int .i64 (N : Int))) none).run Try.prog wx = .ok (.slice A N c) wx := fun wx => run_slice_h (P := Try.prog) wx 33 5 i0 Try.underlying33 hi hz1 A n c N (by omega) .i64 (N : Int) rfl
    have hG : GS w (w2.alloc (.cells #[.string (strB K), .int .u64 (S : Int), .bool D, .string (strB V)] 24)) w2.heap.size A n c bs N T K S D V := ⟨a3, hr3, hbel3, hT2, hNn⟩
    clear hok hck hent hNl hK hV hNN ht1 ht2 HKM HVM hck2 HC hT2 c0 a3 hr3 hbel3
    go_upto_region 8 with fail
    have hGS := hG.drew.all
    go_cut [50] (fun t wx => t = .bool false ∧ GS w wx w2.heap.size A n c bs N T K S D V)
    case first =>
      refine wp_region_noPanic ?_
      refine wp_region_held_drew (S := (fun w' => w'.cell? ⟨w2.heap.size, 0, none⟩ = some (.string (strB K)) ∧ w'.cell? ⟨w2.heap.size, 1, none⟩ = some (.int .u64 (S : Int)) ∧ w'.cell? ⟨w2.heap.size, 2, none⟩ = some (.bool D) ∧ w'.cell? ⟨w2.heap.size, 3, none⟩ = some (.string (strB V)) ∧ (convert 33 9 (.slice A N c)).run Try.prog w' = .ok (.string T) w' ∧ GS w w' w2.heap.size A n c bs N T K S D V)) (by kernel_rfl) (hGS) (fun hHeld => ?_)
      refine wpAnyH_take (i := 0) (v := ?_) (by simp only [List.getElem?_toArray, List.getElem?_cons_succ, List.getElem?_cons_zero]; rfl) (by kernel_rfl) (by kernel_rfl) (by kernel_rfl) (fun _ _ _ h => h) (Or.inl ⟨by rfl, ?_⟩) (by assumption) ?_
      rotate_left
      · (intro w hSw; (try dsimp only at hSw); go_simp; (try with_reducible rfl))
      (try simp only [Act.put, List.setIfInBounds_toArray, List.set_cons_zero, List.set_cons_succ])
      refine wpAnyH_ready (rs := [1]) (by kernel_rfl) (by simp) ?_
      refine AllReadyH.cons (by simp only [List.getElem?_toArray, List.getElem?_cons_succ, List.getElem?_cons_zero]; rfl) (fun K hK => ?_) AllReadyH.nil
      go_simp
      refine (HCK.out _).mono ?_
      rintro q w4 ⟨rfl, hb4⟩
      go_simp
      refine hK.out _ _ ?_ (fun hHeld => ?_)
      · exact GS.again hHeld.2.2.2.2.2 hb4
      clear hK K
      (try simp only [Act.put, List.setIfInBounds_toArray, List.set_cons_zero, List.set_cons_succ])
      refine wpAnyH_take (i := 2) (v := .bool false) (by simp only [List.getElem?_toArray, List.getElem?_cons_succ, List.getElem?_cons_zero]; rfl) (by kernel_rfl) (by kernel_rfl) (by kernel_rfl) (fun _ _ _ h => h) (Or.inl ⟨by rfl, ?_⟩) (by assumption) ?_
      · (intro w hSw; (try dsimp only at hSw); go_simp; (try simp))
      (try simp only [Act.put, List.setIfInBounds_toArray, List.set_cons_zero, List.set_cons_succ])
      refine wpAnyH_take (i := 3) (v := ?_) (by simp only [List.getElem?_toArray, List.getElem?_cons_succ, List.getElem?_cons_zero]; rfl) (by kernel_rfl) (by kernel_rfl) (by kernel_rfl) (fun _ _ _ h => h) (Or.inl ⟨by rfl, ?_⟩) (by assumption) ?_
      rotate_left
      · (intro w hSw; (try dsimp only at hSw); go_simp; (try with_reducible rfl))
      (try simp only [Act.put, List.setIfInBounds_toArray, List.set_cons_zero, List.set_cons_succ])
      refine wpAnyH_take (i := 4) (v := ?_) (by simp only [List.getElem?_toArray, List.getElem?_cons_succ, List.getElem?_cons_zero]; rfl) (by kernel_rfl) (by kernel_rfl) (by kernel_rfl) (fun _ _ _ h => h) (Or.inl ⟨by rfl, ?_⟩) (by assumption) ?_
      rotate_left
      · (intro w hSw; (try dsimp only at hSw); go_simp; (try with_reducible rfl))
      (try simp only [Act.put, List.setIfInBounds_toArray, List.set_cons_zero, List.set_cons_succ])
      refine wpAnyH_take (i := 7) (v := ?_) (by simp only [List.getElem?_toArray, List.getElem?_cons_succ, List.getElem?_cons_zero]; rfl) (by kernel_rfl) (by kernel_rfl) (by kernel_rfl) (fun _ _ _ h => h) (Or.inl ⟨by rfl, ?_⟩) (by assumption) ?_
      rotate_left
      · (intro w hSw; (try dsimp only at hSw); go_simp; (try with_reducible rfl))
      (try simp only [Act.put, List.setIfInBounds_toArray, List.set_cons_zero, List.set_cons_succ])
      refine wpAnyH_take (i := 8) (v := ?_) (by simp only [List.getElem?_toArray, List.getElem?_cons_succ, List.getElem?_cons_zero]; rfl) (by kernel_rfl) (by kernel_rfl) (by kernel_rfl) (fun _ _ _ h => h) (Or.inl ⟨by rfl, ?_⟩) (by assumption) ?_
      rotate_left
      · (intro w hSw; (try dsimp only at hSw); go_simp; (try with_reducible rfl))
      (try simp only [Act.put, List.setIfInBounds_toArray, List.set_cons_zero, List.set_cons_succ])
      refine wpAnyH_take (i := 9) (v := .slice A N c) (by simp only [List.getElem?_toArray, List.getElem?_cons_succ, List.getElem?_cons_zero]; rfl) (by kernel_rfl) (by kernel_rfl) (by kernel_rfl) (fun _ _ _ h => h) (Or.inl ⟨by rfl, ?_⟩) (by assumption) ?_
      · (intro w hSw; (try dsimp only at hSw); go_simp; (try simp [hslh]))
      (try simp only [Act.put, List.setIfInBounds_toArray, List.set_cons_zero, List.set_cons_succ])
      refine wpAnyH_take (i := 10) (v := .string T) (by simp only [List.getElem?_toArray, List.getElem?_cons_succ, List.getElem?_cons_zero]; rfl) (by kernel_rfl) (by kernel_rfl) (by kernel_rfl) (fun _ _ _ h => h) (Or.inl ⟨by rfl, ?_⟩) (by assumption) ?_
      · (intro w hSw; (try dsimp only at hSw); go_simp; (try simp))
      (try simp only [Act.put, List.setIfInBounds_toArray, List.set_cons_zero, List.set_cons_succ])
      refine wpAnyH_ready (rs := [5]) (by kernel_rfl) (by simp) ?_
      refine AllReadyH.cons (by simp only [List.getElem?_toArray, List.getElem?_cons_succ, List.getElem?_cons_zero]; rfl) (fun K hK => ?_) AllReadyH.nil
      go_simp
      refine (HPUT.out w4).mono ?_
      rintro q w5 ⟨v5, rfl, hl5⟩
      have hb5 := hl5.below (Buf.nil w4 _) (Nat.le_refl _)
      obtain ⟨A5, c5, rfl, _, hr5⟩ := hl5.buf.slice
      go_simp
      refine hK.out _ _ ?_ (fun hHeld => ?_)
      · exact GS.again hHeld.2.2.2.2.2 hb5
      clear hK K
      (try simp only [Act.put, List.setIfInBounds_toArray, List.set_cons_zero, List.set_cons_succ])
      have hcv5 : (convert 33 9 (.slice A5 (entB K S D V).length c5)).run Try.prog w5 = .ok (.string T) w5 := by
        rw [Nat.zero_add] at hr5; have := run_conv (P := Try.prog) c5 hr5 33 9 5 Try.underlying33 Try.underlying5 Try.underlying9
        rw [← HT.out]; exact this
      refine wpAnyH_ready (rs := [6]) (by kernel_rfl) (by simp) ?_
      refine AllReadyH.cons (by simp only [List.getElem?_toArray, List.getElem?_cons_succ, List.getElem?_cons_zero]; rfl) (fun K hK => ?_) AllReadyH.nil
      go_simp
      skip
      refine hK.out _ _ ?_ (fun hHeld => ?_)
      · exact hHeld
      clear hK K
      (try simp only [Act.put, List.setIfInBounds_toArray, List.set_cons_zero, List.set_cons_succ])
      refine wpAnyH_take (i := 11) (v := .bool false) (by simp only [List.getElem?_toArray, List.getElem?_cons_succ, List.getElem?_cons_zero]; rfl) (by kernel_rfl) (by kernel_rfl) (by kernel_rfl) (fun _ _ _ h => h) (Or.inl ⟨by rfl, ?_⟩) (by assumption) ?_
      · (intro w hSw; (try dsimp only at hSw); go_simp; (try simp))
      (try simp only [Act.put, List.setIfInBounds_toArray, List.set_cons_zero, List.set_cons_succ])
      refine wpAnyH_take (i := 12) (v := ?_) (by simp only [List.getElem?_toArray, List.getElem?_cons_succ, List.getElem?_cons_zero]; rfl) (by kernel_rfl) (by kernel_rfl) (by kernel_rfl) (fun _ _ _ h => h) (Or.inl ⟨by rfl, ?_⟩) (by assumption) ?_
      rotate_left
      · (intro w hSw; (try dsimp only at hSw); go_simp; (try with_reducible rfl))
      (try simp only [Act.put, List.setIfInBounds_toArray, List.set_cons_zero, List.set_cons_succ])
      refine wpAnyH_done (by kernel_rfl) ?_ _
      refine NoPanic.normal ?_
      go_wp2_with fail
      go_meet
      exact ⟨rfl, hHeld.2.2.2.2.2⟩
    case rest =>
      obtain ⟨rfl, hG3⟩ := hcut
      clear hGS hG HPUT HCK HT HK HV HVL HOK HANS
      go_wp2_with fail
      go_loopg [6] N (fun m i wr => ∃ j : Nat, m = N - j ∧ j ≤ N ∧ i = .int .i64 (j : Int) ∧ Below w.heap.size w wr)
      case atStart => exact ⟨0, rfl, by omega, rfl, hG3.bel⟩
      case round =>
        obtain ⟨j, hm, hj, rfl, hbw⟩ := hrel
        have HM := Lib.hid hm
        clear hm
        by_cases hlt : j < N
        · have hlt' : (j : Int) < (N : Int) := by omega
          have hslj : ∀ wx : World, (Instr.slice 33 (.slice A n c) none (some (.int .i64 (j : Int))) none).run Try.prog wx = .ok (.slice A j c) wx := fun wx => run_slice_h (P := Try.prog) wx 33 5 i0 Try.underlying33 hi hz1 A n c j (by omega) .i64 (j : Int) rfl
          have hbt : ∀ x ∈ bs.take j, x < 256 := fun x hx => HB.out x (List.mem_of_mem_take hx)
          have hjl : j ≤ bs.length := by rw [HBL.out]; omega
          have hrj := (hG3.rd.take j (by omega))
          have hrw : Rd wr w.heap.size A j (bys (bs.take j)) := by
            rw [bys_take]
            exact (HR0.out.below hbw).take j (by omega)
          obtain ⟨K', V', S', D', N', E', hans', hcall'⟩ := get_all (bs.take j) hbt (by rw [List.length_take]; omega)
          have hE8 : E' = 8 := by
            by_cases hj1 : j < tN bs
            · exact hans'.s1 (short_at bs HB.out HT1.out j hj1)
            · obtain ⟨w1, w2⟩ := whole_at bs HB.out HT1.out j (by omega) hjl
              refine hans'.s2 w1 ?_
              rw [w2]
              have hdt : (bs.take j).drop (tN bs) = (bs.drop (tN bs)).take (j - tN bs) := by rw [List.drop_take]
              rw [hdt]
              exact short_at _ (fun x hx => HB.out x (List.mem_of_mem_drop hx)) HT2'.out _ (by have := HNN.out; omega)
          subst hE8
          have HC' := Lib.hid (hcall' A j c wr w.heap.size hbw.size hrw (by omega) hcm)
          clear hans' hcall' hrw hrj hbt
          unfold ent at HC'
          go_wp2_with fail
          refine HC'.out.mono ?_
          rintro e w6 ⟨rfl, hb6⟩
          have hbw6 := hbw.trans (hb6.mono hbw.size)
          have hbw7 := hbw6.alloc hbw6.size (.cells #[.string (strB K'), .int .u64 (S' : Int), .bool D', .string (strB V')] 24)
          go_wp2_with fail
          go_roundg (N - (j + 1))
          case measure => have := HM.out; omega
          case rel => exact ⟨j + 1, rfl, by omega, by go_num, hbw7⟩
        · have hlt' : decide ((j : Int) < (N : Int)) = false := by simp; omega
          go_wp2_with fail
          go_ret
          exact ⟨rfl, hbw⟩
  · obtain ⟨hE2, rfl, rfl, rfl, rfl, rfl⟩ := HANS.out.bad hE
    have hne : ((E : Int) != 0) = true := by simp; omega
    obtain ⟨p0, p1, p2, p3, _, _, _, _⟩ := a3
    clear HANS HC
    have hse : strB [] = ⟨#[]⟩ := rfl
    rw [hse] at *
    rcases hE2 with rfl | rfl
    · go_wp2_with fail
      go_ret
      exact ⟨rfl, hbel3⟩
    · go_wp2_with fail
      go_ret
      exact ⟨rfl, hbel3⟩
end Go.Proofs.Ytahbhaphodgomac
