/- append of a literal of some elements; of a text; a byte of a text. -/
import Derived.Test.YtkdkihacpjhgmaaOpw
namespace Go.Proofs.Ytkdkihacpjhgmaa
set_option linter.unusedSimpArgs false
set_option linter.unusedVariables false
open Go.RowKit

theorem Rd.lit (w : World) (C : Array Value) (e : TypeId) (m : Nat) (hm : C.size = m) : Rd (w.alloc (.cells C e)) (w.heap.size + 1) (some ⟨w.heap.size, 0, none⟩) m C.toList := by
  subst hm
  exact ⟨by simp, fun _ => ⟨_, _, rfl, Nat.lt_succ_self _, fun j u' hu => by
      rw [Nat.zero_add, World.cell?_alloc_mark]; simpa using hu⟩⟩

/-- append of some elements that the text has just laid in a row of their own. -/
theorem wpList_append_lit {P : Program} {w : World} {ops : Array Oper} {rest : List Oper} {o : Oper} {a : Act} {Q : Exit → Act → World → Prop} (hgd : o.guard = none) (s x : Operand) (t : TypeId)
    (ho : o.op = .call { callee := .builtin .append, args := #[s, x], argTypes := #[t, t] })
    (base : Nat) (e : TypeId) (i : TypeInfo) (z : Value) (bytes : Nat) (ht : P.underlying t = some (.slice e)) (hi : P.info? e = some i) (hz : i.zero = some z)
    (hsize : i.size = 1) (hby : i.bytes = bytes) (hzs : z.cells.size = 1)
    {v : Value} {n : Nat} {xs : List Value} (hs : a.eval s = v) (hbuf : Buf w base v n xs)
    {C : Array Value} {m : Nat} (hm : C.size = m) (hx : a.eval x = .slice (some ⟨w.heap.size, 0, none⟩) m m) (h1 : ∀ u ∈ C.toList, u.oneCell' = true)
    (h63 : n + m ≤ maxLen) (hbytes : (n + m) * bytes ≤ 140737488355328) (hbase : base ≤ w.heap.size)
    (hK : ∀ v' w', Buf w' base v' (n + m) (xs ++ C.toList) → w.grownBy w' v.ownBlock → (v'.ownBlock = v.ownBlock ∨ ∀ k, v'.ownBlock = some k → w.heap.size ≤ k) → wpList P ops Q rest (a.put o.dst v') w') :
    wpList P ops Q (o :: rest) a (w.alloc (.cells C e)) := by
  refine wpList_append_buf (P := P) _ hgd s x t ho base e i z bytes ht hi hz hsize hby hzs hs (hbuf.alloc _) hx (Rd.lit w C e m hm) h1 h63 hbytes (by simp; omega) ?_
  intro v' w' r1 r2 r3
  refine hK v' w' r1 ((World.grownBy_alloc w _ _).trans r2) (r3.imp id fun h k hk => ?_)
  have := h k hk
  simp at this
  omega

theorem strB_at (bs : List Nat) (hb : ∀ c ∈ bs, c < 256) (k : Nat) (h : k < (strB bs).size) : ((strB bs)[k]).toNat = bs.getD k 0 := by
  have hk : k < bs.length := by rw [strB_size] at h; exact h
  have hl := getD_lt hb k
  show ((strB bs).data[k]).toNat = _
  simp only [strB, List.getElem_toArray, List.getElem_map]
  rw [UInt8.toNat_ofNat', Nat.mod_eq_of_lt (hb _ (List.getElem_mem hk))]
  simp [List.getD, hk]

theorem str_of (s : ByteArray) : ∃ bs : List Nat, s = strB bs ∧ ∀ c ∈ bs, c < 256 := by
  refine ⟨s.data.toList.map UInt8.toNat, ?_, ?_⟩
  · unfold strB
    rw [List.map_map]
    have : (UInt8.ofNat ∘ UInt8.toNat) = id := by funext x; simp
    rw [this]; simp
  · intro c hc
    simp only [List.mem_map] at hc
    obtain ⟨x, _, rfl⟩ := hc
    exact x.toNat_lt

theorem not_u64 (n : Nat) (h : (n : Int) ≤ 18446744073709551615) : bits BinOp.xor IntKind.u64 IntKind.u64.max (n : Int) = ((18446744073709551615 - n : Nat) : Int) := by
  have e0 : IntKind.u64.max = ((18446744073709551615 : Nat) : Int) := by decide
  rw [e0, u64_xor_nat _ _ (by omega) (by omega)]
  congr 1
  have e := BitVec.toNat_not (x := BitVec.ofNat 64 n)
  have e1 : (~~~ BitVec.ofNat 64 n) = BitVec.allOnes 64 ^^^ BitVec.ofNat 64 n := by rw [BitVec.allOnes_xor]
  rw [e1, BitVec.toNat_xor, BitVec.toNat_allOnes, BitVec.toNat_ofNat, Nat.mod_eq_of_lt (by omega)] at e
  simpa using e
end Go.Proofs.Ytkdkihacpjhgmaa
