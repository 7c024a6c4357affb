/- Walks: Crash. -/
import Derived.Test.YtahbhaphodgomaaE3
namespace Go.Proofs.Ytahbhaphodgomaa
set_option linter.unusedSimpArgs false
set_option linter.unusedVariables false
open Go.RowKit Go.Maps

def cutA (f : AF) (t : Int) : AF := { f with data := f.data.take (cutN f.data.length f.sure t), sure := cutN f.data.length f.sure t }
def crashA : List AF → List Int → List AF
  | [], _ => []
  | f :: r, ks => if f.sure = f.data.length then f :: crashA r ks else cutA f (ks.headD 0) :: crashA r ks.tail
def DS.crash (s : DS) (ks : List Int) : DS := { s with all := crashA s.all ks, fuse := 0, down := false }
def inB (l : List Int) : List Value := l.map (Value.int .i64)
theorem Try.info3 : (Try.prog.info? 3).map (fun i => (i.zero, i.size, i.bytes)) = some (some (.int .i64 0), 1, 8) := by kernel_rfl
theorem look_at {w : World} {base gd : Nat} {mv : Option Nat} {pre post : List File} {f : File} {room fuse : Nat} {down : Bool} (h : Dsk w base gd mv (pre ++ f :: post) room fuse down) : look (pre ++ f :: post) f.name = some f := by
  have hp := h.apart'
  obtain ⟨h1, h2, h3⟩ := List.pairwise_append.1 hp
  unfold look
  rw [List.find?_append]
  have : pre.find? (fun g => g.name == f.name) = none := by
    rw [List.find?_eq_none]
    intro g hg
    have := h3 g hg f (by simp)
    simpa using this
  rw [this]
  simp
theorem inB_at (ks : List Int) (j : Nat) (h : j < ks.length) : (inB ks)[j]? = some (.int .i64 (ks.getD j 0)) := by
  simp [inB, h, List.getD]
theorem feet_same (gd : Nat) (mv : Option Nat) (pre post : List File) (f f' : File) (hb : f'.blk = f.blk) (hv : f'.v.ownBlock = f.v.ownBlock) : feet gd mv (pre ++ f' :: post) = feet gd mv (pre ++ f :: post) := by
  simp [feet, File.foot, hb, hv]

theorem Dsk.drewN {w : World} {base gd : Nat} {mv : Option Nat} {fs : List File} {room fuse : Nat} {down : Bool} (h : Dsk w base gd mv fs room fuse down) (k : Nat) : Dsk (w.drewN k) base gd mv fs room fuse down := h.keep (Nat.le_refl _) (fun _ _ => rfl)
theorem Tch.drewN {w w' : World} {L : List Nat} (h : Tch w w' L) (k : Nat) : Tch w (w'.drewN k) L := ⟨h.os, h.tape, h.output, h.size, h.block⟩

set_option maxHeartbeats 2000000 in
set_option maxRecDepth 100000 in
theorem crash_any (w : World) (base gd : Nat) (L : List Nat) (s : DS) (A : Option Addr) (n c : Nat) (ks : List Int) (h : Dk w base gd L s) (hB : base ≤ w.heap.size) (hlen : s.all.length ≤ 1000000)
    (hr : Rd w w.heap.size A n (inB ks)) (hk : ∀ k ∈ ks, -9223372036854775808 ≤ k ∧ k ≤ 9223372036854775807) (hnc : n ≤ c) (hcm : c ≤ maxLen) (hap : ∀ g off, A = some ⟨g, off, none⟩ → 0 < n → g ∉ L) :
    Calls Try.prog 20 #[.pointer (some ⟨gd, 0, none⟩), .slice A n c] w fun e w' => e = .returned (.tuple #[]) ∧ Nxt w base gd L w' (s.crash ks) := by
  obtain ⟨i3, hi, hz0, hz1, hz2⟩ := info_parts Try.info3
  obtain ⟨mv, fs, hd, hA, hL⟩ := h
  have hc3 := hd.box.c3
  have hc2 := hd.box.c2
  have hf3 := hd.box.cold 3
  have hf2 := hd.box.cold 2
  -- the power is on again, no fuse waits
  have hb1 := (hd.box.set3 (.bool false)).set2 (.int .i64 0)
  have hg1 := (grown_setCell w ⟨gd, 3, none⟩ (.bool false)).trans (grown_setCell (w.setCell ⟨gd, 3, none⟩ (.bool false)) ⟨gd, 2, none⟩ (.int .i64 0))
  have ht1 : Tch w ((w.setCell ⟨gd, 3, none⟩ (.bool false)).setCell ⟨gd, 2, none⟩ (.int .i64 0)) [gd] := Tch.of_grown hg1 (by intro k e; injection e with e; exact List.mem_singleton.2 e.symm)
  have hd1 := hd.boxed (fuse' := 0) (down' := false) hb1 hg1.size (fun k hm hne => ht1.block k (hd.low k hm).2 (by simpa using hne)) (by decide)
  have hc2' : (w.setCell ⟨gd, 3, none⟩ (.bool false)).cell? ⟨gd, 2, none⟩ = some (.int .i64 (s.fuse : Int)) := (hd.box.set3 (.bool false)).c2
  have hf2' : (w.setCell ⟨gd, 3, none⟩ (.bool false)).frozen? ⟨gd, 2, none⟩ = false := (hd.box.set3 (.bool false)).cold 2
  have hfl : fs.length ≤ 1000000 := by rw [← hA, List.length_map] at hlen; exact hlen
  go_enter Try.func20, Try.ntmps20
  go_upto_region 2 with fail
  generalize (w.setCell ⟨gd, 3, none⟩ (.bool false)).setCell ⟨gd, 2, none⟩ (.int .i64 0) = w1 at *
  have HNM := Lib.hid (names_any w1 base gd mv fs s.room 0 false hd1 hfl)
  have HLOW : Hid (∀ k ∈ L, k < w.heap.size) := Lib.hid (by rw [← hL]; exact fun k hk => (hd.low k hk).2)
  have HT1 := Lib.hid (ht1.more (L1 := L) (by rw [← hL]; simp [feet]))
  have hroom := hd.room_le
  clear hc3 hc2 hf3 hf2 hb1 hg1 hc2' hf2' hd ht1
  go_wp2_with fail
  refine HNM.out.mono ?_
  rintro e w2 ⟨gN, capN, rfl, hcN, hcmN, hbN, hbel2⟩
  have hd2 := hd1.below hbel2
  have hgN := hbN.lt gN rfl
  have HT2 := Lib.hid (HT1.out.trans (Tch.of_below [] hbel2) (by simp))
  have hgNw : w.heap.size ≤ gN := Nat.le_trans HT1.out.size hgN.1
  have HBN := Lib.hid hbN
  have HR := Lib.hid hr
  have HK := Lib.hid hk
  have HAP := Lib.hid hap
  have HLL := Lib.hid hL
  have HA := Lib.hid hA
  unfold maxLen at hcmN hcm
  have hqn : ks.length = n := by have := hr.1; rwa [inB, List.length_map] at this
  clear hr hk hap hd1 hbN hbel2 hL hA
  go_wp2_with fail
  go_loopg [1, 19] fs.length (fun m kv i wr => ∃ (pre post : List File) (q : List Int) (Aq : Option Addr) (cq : Nat), m = fs.length - pre.length ∧ i = .int .i64 (pre.length : Int) ∧ kv = .slice Aq q.length cq ∧ Hid (fs.drop pre.length = post) ∧ pre.length ≤ fs.length ∧ Dsk wr base gd mv (pre ++ post) s.room 0 false ∧ Hid (pre.map abs ++ crashA (post.map abs) q = crashA (fs.map abs) ks) ∧ Hid (feet gd mv (pre ++ post) = L) ∧ Hid (Rd w w.heap.size Aq q.length (inB q)) ∧ Hid (∀ g off, Aq = some ⟨g, off, none⟩ → 0 < q.length → g ∉ L) ∧ Hid (∀ k ∈ q, -9223372036854775808 ≤ k ∧ k ≤ 9223372036854775807) ∧ q.length ≤ cq ∧ (cq : Int) ≤ 9223372036854775807 ∧ Tch w2 wr L)
  case atStart =>
    subst hqn
    exact ⟨[], fs, ks, A, c, rfl, rfl, rfl, Lib.hid rfl, Nat.zero_le _, hd2, Lib.hid rfl, HLL, HR, HAP, HK, hnc, by omega, Tch.refl _ _⟩
  case round =>
    clear hd2 hqn hnc hcm
    obtain ⟨pre, post, q, Aq, cq, hm, rfl, rfl, HP, hpl, hdr, HCR, HFE, HRQ, HAQ, HKQ, hqc, hcq, htr⟩ := hrel
    have HM := Lib.hid hm
    clear hm
    have HTR := Lib.hid (HT2.out.trans htr (fun i hi => Or.inl hi))
    by_cases hlt : pre.length < fs.length
    · have hlt' : (pre.length : Int) < (fs.length : Int) := by omega
      have hcons : fs.drop pre.length = fs[pre.length] :: fs.drop (pre.length + 1) := List.drop_eq_getElem_cons hlt
      have hpost := HP.out
      rw [hcons] at hpost
      subst hpost
      have hcellN : wr.cell? ⟨gN, pre.length, none⟩ = some (encStr fs[pre.length].name) := by
        have hbw := HBN.out.keep (w' := wr) (by have := htr.size; omega) (fun k e => htr.block k (by simp [Value.ownBlock] at e; omega) (fun hmm => by simp [Value.ownBlock] at e; have := HLOW.out k hmm; omega))
        obtain ⟨_, _, e9, _, hr9⟩ := hbw.slice
        injection e9 with e91 e92 e93
        subst e91
        obtain ⟨g', off', u, e', _, hu, hcell⟩ := hr9.at_ (k := pre.length) hlt
        injection e' with e'
        injection e' with e1 e2
        subst e1; subst e2
        rw [List.getElem?_map, List.getElem?_eq_getElem hlt] at hu
        simp at hu
        rw [Nat.zero_add] at hcell
        rw [hcell, ← hu]
      generalize fs[pre.length] = f at *
      have hfa := hdr.files f (by simp)
      have hlk := look_run hdr f.name hfa.name
      rw [look_at hdr] at hlk
      simp only [Option.map_some] at hlk
      have hc1r := hdr.box.c1
      have hq0 := hfa.box.c0
      have hq1 := hfa.box.c1
      obtain ⟨A5, c5, ev5, hc5, _⟩ := hfa.buf.slice
      rw [ev5] at hq0
      have hself := hdr.self_ne
      have hfl5 : (f.data.length : Int) ≤ 67108864 := by have h1 := hdr.fit; rw [used_split] at h1; omega
      have hsu := hfa.sure
      unfold str at hlk
      unfold encStr at hcellN
      by_cases hne : f.sure = f.data.length
      · have hne' : ((f.sure : Int) == (f.data.length : Int)) = true := by simp [hne]
        have HNE := Lib.hid hne
        have HDR := Lib.hid hdr
        have HTT := Lib.hid htr
        clear hne hdr htr hfa ev5 hself
        go_wp2_with fail
        go_quiet (fail)
        go_wp2_with fail
        go_roundg (fs.length - (pre.length + 1))
        case measure => have := HM.out; omega
        case rel =>
          refine ⟨pre ++ [f], fs.drop (pre.length + 1), q, Aq, cq, by simp, by simp, rfl, Lib.hid (by simp), by simp; omega, by simpa using HDR.out.drewN _, Lib.hid ?_, Lib.hid (by simpa using HFE.out), HRQ, HAQ, HKQ, hqc, hcq, HTT.out.drewN _⟩
          have := HCR.out
          rw [List.map_cons, crashA, if_pos (by exact HNE.out)] at this
          rw [← this]
          simp
      · have hne' : ((f.sure : Int) == (f.data.length : Int)) = false := by simp; omega
        have HNE := Lib.hid hne
        have HTURN : ∀ (t : Int) (d : Nat) (w5 : World) (v' : Value), (wr.drewN d).grownBy w5 (some f.blk) → v'.ownBlock = f.v.ownBlock → FileAt w5 base { f with v := v', data := f.data.take (cutN f.data.length f.sure t), sure := cutN f.data.length f.sure t } →
            Dsk w5 base gd mv (pre ++ { f with v := v', data := f.data.take (cutN f.data.length f.sure t), sure := cutN f.data.length f.sure t } :: fs.drop (pre.length + 1)) s.room 0 false ∧ feet gd mv (pre ++ { f with v := v', data := f.data.take (cutN f.data.length f.sure t), sure := cutN f.data.length f.sure t } :: fs.drop (pre.length + 1)) = L ∧ Tch w2 w5 L := by
          intro t d w5 v' hg5 hv' hfa'
          have hfb : f.blk ∈ L := by rw [← HFE.out]; exact foot_in gd mv _ f (by simp) _ (by simp [File.foot])
          obtain ⟨r1, r2⟩ := (hdr.drewN d).turn { f with v := v', data := f.data.take (cutN f.data.length f.sure t), sure := cutN f.data.length f.sure t } rfl rfl (Or.inl hv') hg5.size (fun k hk hn => hg5.block k hk (fun e => hn (by injection e with e; simp [File.foot, e]))) hfa'
            (by have h1 := hdr.fit; rw [used_split] at h1 ⊢; simp; omega) (Nat.le_trans hB HTR.out.size)
          exact ⟨r1, (feet_same gd mv pre _ f { f with v := v', data := f.data.take (cutN f.data.length f.sure t), sure := cutN f.data.length f.sure t } rfl hv').trans HFE.out, (htr.drewN d).trans (Tch.of_grown (L := L) hg5 (by intro k e; injection e with e; rw [← e]; exact hfb)) (fun i hi => Or.inl hi)⟩
        have HTURN := Lib.hid HTURN
        have HCUT := fun (t : Int) (ht : -9223372036854775808 ≤ t ∧ t ≤ 9223372036854775807) (d : Nat) => cut_any (wr.drewN d) base f t (hfa.keep (Nat.le_refl _) (fun _ _ => rfl)) hself hfl5 ht
        have HCUT := Lib.hid HCUT
        cases q with
        | nil =>
          have HCUT := Lib.hid (HCUT.out 0 (by omega))
          have HTURN := Lib.hid (HTURN.out 0)
          clear hne hdr htr hfa ev5 hself
          go_wp2_with fail
          go_quiet (fail)
          go_wp2_with fail
          refine (HCUT.out _).mono ?_
          rintro e w5 ⟨rfl, hg5, v', hv', hfa'⟩
          have HNXT := Lib.hid (HTURN.out _ w5 v' hg5 hv' hfa')
          clear hg5 hfa'
          go_wp2_with fail
          go_roundg (fs.length - (pre.length + 1))
          case measure => have := HM.out; omega
          case rel =>
            obtain ⟨hdn, hLn, htn⟩ := HNXT.out
            refine ⟨pre ++ [{ f with v := v', data := f.data.take (cutN f.data.length f.sure 0), sure := cutN f.data.length f.sure 0 }], fs.drop (pre.length + 1), [], Aq, cq, by simp, by simp, rfl, Lib.hid (by simp), by simp; omega, by simpa using hdn, Lib.hid ?_, Lib.hid (by simpa using hLn), HRQ, HAQ, HKQ, hqc, hcq, htn⟩
            have := HCR.out
            rw [List.map_cons, crashA, if_neg (by exact HNE.out)] at this
            rw [← this]
            simp [abs, cutA]
        | cons k q' =>
          have hkb := HKQ.out k (by simp)
          have HCUT := Lib.hid (HCUT.out k hkb)
          have HTURN := Lib.hid (HTURN.out k)
          have hlq : (k :: q').length = q'.length + 1 := rfl
          have hrq := HRQ.out.blk (w' := wr) (fun g off e h0 => HTR.out.block g (HRQ.out.own e h0) (HAQ.out g off e h0))
          obtain ⟨gq, oq, u, eAq, hgq, hu, hcellq⟩ := hrq.at_ (k := 0) (by simp)
          subst eAq
          simp [inB] at hu
          subst hu
          rw [Nat.add_zero] at hcellq
          have hslq := fun wx => run_slice_l (P := Try.prog) wx 30 3 i3 Try.underlying30 hi hz1 (some ⟨gq, oq, none⟩) (q'.length + 1) cq 1 (by omega) .i64 1 rfl
          rw [show q'.length + 1 - 1 = q'.length by omega] at hslq
          obtain ⟨A', HA'⟩ : ∃ A' : Option Addr, Hid (A' = if cq = 1 then some ⟨gq, oq, none⟩ else (some ⟨gq, oq, none⟩ : Option Addr).map (·.add 1)) := ⟨_, Lib.hid rfl⟩
          simp only [← HA'.out] at hslq
          have hrd' := HRQ.out.drop 1 cq (by simp) hqc
          rw [← HA'.out] at hrd'
          have HRQ' : Hid (Rd w w.heap.size A' q'.length (inB q')) := Lib.hid (by simpa [inB] using hrd')
          have HAQ' : Hid (∀ g off, A' = some ⟨g, off, none⟩ → 0 < q'.length → g ∉ L) := Lib.hid (by
            intro g off e h0
            rw [HA'.out] at e
            have hgg : g = gq := by
              split at e
              · injection e with e; injection e with e; exact e.symm
              · simp [Addr.add] at e; exact e.1.symm
            rw [hgg]
            exact HAQ.out gq oq rfl (by simp))
          rw [hlq] at hqc
          have hqc' : q'.length ≤ cq - 1 := by omega
          clear hne hdr htr hfa ev5 hself hrd' hrq
          go_wp2_with fail
          go_quiet (fail)
          go_wp2_with fail
          go_quiet (fail)
          go_wp2_with fail
          refine (HCUT.out _).mono ?_
          rintro e w5 ⟨rfl, hg5, v', hv', hfa'⟩
          have HNXT := Lib.hid (HTURN.out _ w5 v' hg5 hv' hfa')
          clear hg5 hfa'
          go_wp2_with fail
          go_roundg (fs.length - (pre.length + 1))
          case measure => have := HM.out; omega
          case rel =>
            obtain ⟨hdn, hLn, htn⟩ := HNXT.out
            refine ⟨pre ++ [{ f with v := v', data := f.data.take (cutN f.data.length f.sure k), sure := cutN f.data.length f.sure k }], fs.drop (pre.length + 1), q', A', (cq - 1), by simp, by simp, rfl, Lib.hid (by simp), by simp; omega, by simpa using hdn, Lib.hid ?_, Lib.hid (by simpa using hLn), HRQ', HAQ', Lib.hid (fun k' hk' => HKQ.out k' (by simp [hk'])), hqc', by omega, htn⟩
            have := HCR.out
            rw [List.map_cons, crashA, if_neg (by exact HNE.out)] at this
            rw [← this]
            simp [abs, cutA]
    · have hlt' : decide ((pre.length : Int) < (fs.length : Int)) = false := by simp; omega
      have hnil : post = [] := by rw [← HP.out]; exact List.drop_eq_nil_of_le (by omega)
      subst hnil
      have HFIN : Nxt w base gd L wr (s.crash ks) := by
        refine ⟨L, ⟨mv, pre ++ [], hdr, ?_, HFE.out⟩, HTR.out, fun k hk => Or.inl hk⟩
        have := HCR.out
        show _ = crashA s.all ks
        rw [← HA.out, ← this]
        simp [crashA]
      have HFIN := Lib.hid HFIN
      clear hdr htr
      go_wp2_with fail
      go_end0
      exact ⟨rfl, HFIN.out⟩
end Go.Proofs.Ytahbhaphodgomaa
