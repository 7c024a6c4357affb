/- Bytes as a string: 'string(b)' of a slice that reads as a list of bytes. -/
import Derived.Test.YtkdkihacpjhgmaaBuf
import Derived.Laws.BytesArg
import Derived.Laws.IdiomStrings
import Derived.Laws.Concat
import Derived.OpenShut
namespace Go.Proofs.Ytkdkihacpjhgmaa
set_option linter.unusedSimpArgs false
set_option linter.unusedVariables false
open Go.RowKit

def strB (bs : List Nat) : ByteArray := ⟨(bs.map UInt8.ofNat).toArray⟩
theorem strB_list (bs : List Nat) : (strB bs).toList = bs.map UInt8.ofNat := by rw [ByteArray.toList_eq]; simp [strB]
theorem strB_size (bs : List Nat) : (strB bs).size = bs.length := by simp [strB, ByteArray.size]
theorem strB_app (a b : List Nat) : strB a ++ strB b = strB (a ++ b) := by
  unfold strB
  rw [ByteArray.mk_append_mk, List.map_append]
theorem ofNat_inj (a b : Nat) (ha : a < 256) (hb : b < 256) (h : UInt8.ofNat a = UInt8.ofNat b) : a = b := by
  have := congrArg UInt8.toNat h
  simpa [UInt8.toNat_ofNat', Nat.mod_eq_of_lt ha, Nat.mod_eq_of_lt hb] using this
theorem map_ofNat_inj : ∀ (a b : List Nat), (∀ c ∈ a, c < 256) → (∀ c ∈ b, c < 256) → a.map UInt8.ofNat = b.map UInt8.ofNat → a = b
  | [], [], _, _, _ => rfl
  | [], _ :: _, _, _, h => by simp at h
  | _ :: _, [], _, _, h => by simp at h
  | x :: a, y :: b, ha, hb, h => by
    simp only [List.map_cons, List.cons.injEq] at h
    rw [ofNat_inj x y (ha x (by simp)) (hb y (by simp)) h.1, map_ofNat_inj a b (fun c hc => ha c (by simp [hc])) (fun c hc => hb c (by simp [hc])) h.2]
theorem strB_beq (a b : List Nat) (ha : ∀ c ∈ a, c < 256) (hb : ∀ c ∈ b, c < 256) : ((strB a).toList == (strB b).toList) = decide (a = b) := by
  rw [strB_list, strB_list]
  by_cases h : a = b
  · subst h; simp
  · rw [decide_eq_false h, beq_eq_false_iff_ne]
    exact fun h' => h (map_ofNat_inj a b ha hb h')
theorem strB_same (a : List Nat) : ((strB a).toList == (strB a).toList) = true := by simp

theorem bys_ints (bs : List Nat) : bys bs = (bs.map (fun (c : Nat) => (c : Int))).map (Value.int .u8) := by simp [bys]

theorem run_conv {P : Program} {w : World} {B : Nat} {A : Option Addr} {n : Nat} {bs : List Nat} (c : Nat) (hr : Rd w B A n (bys bs)) (src dst e : TypeId)
    (hs : P.underlying src = some (.slice e)) (he : P.underlying e = some (.int .u8)) (hd : P.underlying dst = some .string) :
    (convert src dst (.slice A n c)).run P w = .ok (.string (strB bs)) w := by
  have hl : bs.length = n := by have := hr.1; rwa [bys_len] at this
  rcases Nat.eq_zero_or_pos n with h0 | h0
  · subst h0
    obtain rfl : bs = [] := List.eq_nil_of_length_eq_zero hl
    cases A with
    | none => exact run_convert_bytes_nil w src e hs he 0 c dst hd
    | some a => exact run_convert_bytes_back (P := P) w src dst e a c [] hs he hd (fun j hj => absurd hj (by simp))
  · obtain ⟨g, off, rfl, _, hc⟩ := hr.2 h0
    have := run_convert_bytes_arg (P := P) w src e hs he g off n c (bs.map (fun (c : Nat) => (c : Int))) (by simpa using hl) (fun i hi => by
      rw [hc i _ (bys_get bs i (by omega))]
      simp [List.getD, List.getElem?_map, List.getElem?_eq_getElem (show i < bs.length by omega)]) dst hd
    rw [this]
    congr 2
    simp [strOfNums, strB]

theorem Rd.take {w : World} {B : Nat} {A : Option Addr} {n : Nat} {xs : List Value} (h : Rd w B A n xs) (k : Nat) (hk : k ≤ n) : Rd w B A k (xs.take k) := by
  refine ⟨by rw [List.length_take, h.1]; omega, fun hp => ?_⟩
  obtain ⟨g, off, e, hB, hc⟩ := h.2 (by omega)
  refine ⟨g, off, e, hB, fun j u hu => hc j u ?_⟩
  rw [List.getElem?_take] at hu
  split at hu
  · exact hu
  · cases hu
theorem bys_take (bs : List Nat) (k : Nat) : bys (bs.take k) = (bys bs).take k := by simp [bys, List.map_take]
theorem bys_drop (bs : List Nat) (k : Nat) : bys (bs.drop k) = (bys bs).drop k := by simp [bys, List.map_drop]

/-- A byte slice that came in, as the shell tells it: the list of its bytes. -/
theorem rd_of_row {w : World} {a : Option Addr} {len cap : Nat} {zs : List Int}
    (h : (a = none ∧ len = 0 ∧ cap = 0 ∧ zs = []) ∨ ∃ x, a = some x ∧ len ≤ cap ∧ cap ≤ maxLen ∧ zs.length = cap ∧ (∀ i, i < zs.length → w.cell? (x.add i) = some (.int .u8 (zs.getD i 0))) ∧ ∀ n ∈ zs, (Lit.int .u8 n).wf = true) :
    ∃ bs : List Nat, Rd w w.heap.size a len (bys bs) ∧ (∀ c ∈ bs, c < 256) ∧ bs.length = len ∧ len ≤ cap ∧ cap ≤ maxLen := by
  rcases h with ⟨rfl, rfl, rfl, rfl⟩ | ⟨x, rfl, hl, hm, hz, hc, hw⟩
  · exact ⟨[], Rd.nil, by simp, rfl, by omega, by unfold maxLen; omega⟩
  · have hb : ∀ n ∈ zs, 0 ≤ n ∧ n < 256 := by
      intro n hn
      have := hw n hn
      simp [Lit.wf, IntKind.min, IntKind.max, IntKind.signed, IntKind.bits] at this
      omega
    have hlen : ((zs.take len).map Int.toNat).length = len := by simp; omega
    refine ⟨(zs.take len).map Int.toNat, ⟨by rw [bys_len]; exact hlen, fun hn => ?_⟩, ?_, hlen, hl, hm⟩
    · obtain ⟨b, off, rfl, hc'⟩ := ints_at hc (by omega)
      refine ⟨b, off, rfl, World.block_lt_of_cell? _ _ (hc' 0 (by omega)), fun j u hu => ?_⟩
      have hj : j < len := by
        have := (List.getElem?_eq_some_iff.1 hu).1
        rw [bys_len, hlen] at this
        exact this
      rw [bys_get _ j (by omega)] at hu
      injection hu with hu
      subst hu
      rw [hc' j (by omega)]
      have hjz : j < zs.length := by omega
      have hpos := (hb _ (List.getElem_mem hjz)).1
      simp [List.getD, hj, hjz]
      omega
    · intro c hc
      simp only [List.mem_map] at hc
      obtain ⟨n, hn, rfl⟩ := hc
      have := hb n (List.mem_of_mem_take hn)
      omega
end Go.Proofs.Ytkdkihacpjhgmaa
