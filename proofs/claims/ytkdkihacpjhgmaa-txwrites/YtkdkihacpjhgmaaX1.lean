/- Transactions in memory. -/
import Derived.Test.YtkdkihacpjhgmaaX0
import Derived.Test.YtkdkihacpjhgmaaOpenG
import Derived.Test.YtkdkihacpjhgmaaTch
import Derived.Test.YtkdkihacpjhgmaaApp
namespace Go.Proofs.Ytkdkihacpjhgmaa
set_option linter.unusedSimpArgs false
set_option linter.unusedVariables false
open Go.RowKit

/-- An input in memory: its witness lies at an address. -/
structure MIn where
  p : TIn
  wa : Option Addr
  wc : Nat
def inC (id : List Nat) (out : Nat) (sc : List Nat) (seq : Nat) (W : Value) : List Value := bys id ++ [.int .u32 (out : Int), .string (strB sc), .int .u32 (seq : Int), W]
def MIn.cells (x : MIn) : List Value := inC x.p.id x.p.out x.p.sc x.p.seq (.slice x.wa x.p.wit.length x.wc)
def TOut.cells (o : TOut) : List Value := [.int .i64 o.coins, .string (strB o.sc)]
def strs (l : List (List Nat)) : List Value := l.map fun s => .string (strB s)
/-- A transaction in memory. -/
structure MTx where
  ver : Int
  ins : List MIn
  ia : Option Addr
  ic : Nat
  outs : List TOut
  oa : Option Addr
  oc : Nat
  lock : Nat
def MTx.p (t : MTx) : PTx := { ver := t.ver, ins := t.ins.map (·.p), outs := t.outs, lock := t.lock }
def MTx.val (t : MTx) : Value := .agg #[.int .i32 t.ver, .slice t.ia t.ins.length t.ic, .slice t.oa t.outs.length t.oc, .int .u32 (t.lock : Int)]

structure TIn.ok (x : TIn) : Prop where
  id : x.id.length = 32
  idb : B8 x.id
  out : x.out < 4294967296
  sc : B8 x.sc
  scl : (x.sc.length : Int) ≤ 9223372036854775807
  seq : x.seq < 4294967296
  wit : ∀ p ∈ x.wit, B8 p ∧ (p.length : Int) ≤ 9223372036854775807
structure TOut.ok (o : TOut) : Prop where
  c0 : -9223372036854775808 ≤ o.coins
  c1 : o.coins ≤ 9223372036854775807
  sc : B8 o.sc
  scl : (o.sc.length : Int) ≤ 9223372036854775807
structure InAt (w : World) (B : Nat) (x : MIn) : Prop where
  wit : Rd w B x.wa x.p.wit.length (strs x.p.wit)
  ok : x.p.ok
  wl : x.p.wit.length ≤ x.wc
  wc : (x.wc : Int) ≤ 9223372036854775807
structure TxAt (w : World) (B : Nat) (t : MTx) : Prop where
  ins : RdN w B 36 t.ia t.ins.length (t.ins.flatMap MIn.cells)
  outs : RdN w B 2 t.oa t.outs.length (t.outs.flatMap TOut.cells)
  iat : ∀ x ∈ t.ins, InAt w B x
  ook : ∀ o ∈ t.outs, o.ok
  v0 : -2147483648 ≤ t.ver
  v1 : t.ver ≤ 2147483647
  lock : t.lock < 4294967296
  il : t.ins.length ≤ t.ic
  ic : (t.ic : Int) ≤ 9223372036854775807
  ol : t.outs.length ≤ t.oc
  oc : (t.oc : Int) ≤ 9223372036854775807
section
variable {w w' : World} {B B' : Nat}
theorem InAt.below {x : MIn} (h : InAt w B x) (hb : Below B w w') : InAt w' B x := ⟨h.wit.below hb, h.ok, h.wl, h.wc⟩
theorem InAt.up {x : MIn} (h : InAt w B x) (hB : B ≤ B') : InAt w B' x := ⟨h.wit.up hB, h.ok, h.wl, h.wc⟩
theorem TxAt.below {t : MTx} (h : TxAt w B t) (hb : Below B w w') : TxAt w' B t :=
  ⟨h.ins.below hb, h.outs.below hb, fun x hx => (h.iat x hx).below hb, h.ook, h.v0, h.v1, h.lock, h.il, h.ic, h.ol, h.oc⟩
theorem TxAt.up {t : MTx} (h : TxAt w B t) (hB : B ≤ B') : TxAt w B' t :=
  ⟨h.ins.up hB, h.outs.up hB, fun x hx => (h.iat x hx).up hB, h.ook, h.v0, h.v1, h.lock, h.il, h.ic, h.ol, h.oc⟩
end
theorem inC_len {id : List Nat} {out : Nat} {sc : List Nat} {seq : Nat} {W : Value} (h : id.length = 32) : (inC id out sc seq W).length = 36 := by simp [inC, bys_len, h]
theorem inC_at {id : List Nat} {out : Nat} {sc : List Nat} {seq : Nat} {W : Value} (h : id.length = 32) :
    (inC id out sc seq W)[32]? = some (.int .u32 (out : Int)) ∧ (inC id out sc seq W)[33]? = some (.string (strB sc)) ∧ (inC id out sc seq W)[34]? = some (.int .u32 (seq : Int)) ∧ (inC id out sc seq W)[35]? = some W := by
  have hp : (bys id).length = 32 := by rw [bys_len]; exact h
  refine ⟨?_, ?_, ?_, ?_⟩ <;> simp [inC, List.getElem?_append, hp]
theorem inC_id {id : List Nat} {out : Nat} {sc : List Nat} {seq : Nat} {W : Value} (i : Nat) (u : Value) (hu : (bys id)[i]? = some u) : (inC id out sc seq W)[i]? = some u := by
  have hi : i < (bys id).length := (List.getElem?_eq_some_iff.1 hu).1
  simp only [inC]
  rw [List.getElem?_append_left hi]; exact hu
theorem inC_one {id : List Nat} {out : Nat} {sc : List Nat} {seq : Nat} {A : Option Addr} {n c : Nat} : ∀ u ∈ inC id out sc seq (.slice A n c), u.oneCell' = true := by
  intro u hu
  simp only [inC, List.mem_cons, List.mem_append, List.not_mem_nil, or_false] at hu
  rcases hu with hu | rfl | rfl | rfl | rfl
  · exact bys_one _ u hu
  all_goals rfl
theorem MIn.len {x : MIn} (h : x.p.ok) : x.cells.length = 36 := inC_len h.id
theorem TOut.len (o : TOut) : o.cells.length = 2 := rfl

/-- Element i of a row of elements of s cells. -/
theorem flat_elem {α : Type} (f : α → List Value) (s : Nat) : ∀ (L : List α), (∀ x ∈ L, (f x).length = s) → ∀ (i : Nat) (x : α), L[i]? = some x → ((L.flatMap f).drop (i * s)).take s = f x
  | [], _, i, x, h => by simp at h
  | y :: r, hs, 0, x, h => by
    simp at h; subst h
    rw [List.flatMap_cons, Nat.zero_mul, List.drop_zero, List.take_append_of_le_length (by rw [hs y (by simp)]; exact Nat.le_refl _), List.take_of_length_le (by rw [hs y (by simp)]; exact Nat.le_refl _)]
  | y :: r, hs, i + 1, x, h => by
    have ih := flat_elem f s r (fun z hz => hs z (by simp [hz])) i x (by simpa using h)
    have hy := hs y (by simp)
    rw [List.flatMap_cons, Nat.succ_mul, List.drop_append, List.drop_eq_nil_of_le (by omega), List.nil_append, hy, Nat.add_sub_cancel]
    exact ih
theorem flat_len {α : Type} (f : α → List Value) (s : Nat) : ∀ (L : List α), (∀ x ∈ L, (f x).length = s) → (L.flatMap f).length = L.length * s
  | [], _ => by simp
  | y :: r, hs => by
    rw [List.flatMap_cons, List.length_append, hs y (by simp), flat_len f s r (fun z hz => hs z (by simp [hz])), List.length_cons, Nat.succ_mul]; omega
theorem TxAt.inp {w : World} {B : Nat} {t : MTx} (h : TxAt w B t) (i : Nat) (x : MIn) (hx : t.ins[i]? = some x) : ∃ g off, t.ia = some ⟨g, off, none⟩ ∧ g < B ∧ w.rangeAt g (off + i * 36) x.cells := by
  have hi : i < t.ins.length := (List.getElem?_eq_some_iff.1 hx).1
  obtain ⟨g, off, e, hg, hr⟩ := h.ins.elem i hi
  refine ⟨g, off, e, hg, ?_⟩
  rwa [flat_elem MIn.cells 36 t.ins (fun y hy => MIn.len (h.iat y hy).ok) i x hx] at hr
theorem TxAt.outp {w : World} {B : Nat} {t : MTx} (h : TxAt w B t) (i : Nat) (x : TOut) (hx : t.outs[i]? = some x) :
    ∃ g off, t.oa = some ⟨g, off, none⟩ ∧ g < B ∧ w.cell? ⟨g, off + i * 2, none⟩ = some (.int .i64 x.coins) ∧ w.cell? ⟨g, off + i * 2 + 1, none⟩ = some (.string (strB x.sc)) := by
  have hi : i < t.outs.length := (List.getElem?_eq_some_iff.1 hx).1
  obtain ⟨g, off, e, hg, hr⟩ := h.outs.elem i hi
  rw [flat_elem TOut.cells 2 t.outs (fun y hy => rfl) i x hx] at hr
  exact ⟨g, off, e, hg, hr 0 _ rfl, hr 1 _ rfl⟩

def z32 : List Nat := List.replicate 32 0
/-- An input of zeros. -/
def ZIN : List Value := inC z32 0 [] 0 (.slice none 0 0)
theorem ZIN_len : ZIN.length = 36 := inC_len rfl
theorem Try.zeroIn : (Try.prog.info? 58).map (·.zero) = some (some (.agg ZIN.toArray)) := by kernel_rfl
theorem Try.sizeIn : (Try.prog.info? 58).map (·.size) = some 36 := by kernel_rfl
theorem Try.infoIn : (Try.prog.info? 58).map (fun i => (i.zero, i.size, i.bytes)) = some (some (.agg ZIN.toArray), 36, 88) := by kernel_rfl
theorem Try.infoOut : (Try.prog.info? 49).map (fun i => (i.zero, i.size, i.bytes)) = some (some (.agg #[.int .i64 0, .string ⟨#[]⟩]), 2, 24) := by kernel_rfl
theorem Try.infoStr : (Try.prog.info? 9).map (fun i => (i.zero, i.size, i.bytes)) = some (some (.string ⟨#[]⟩), 1, 16) := by kernel_rfl

/-- The walk's own copy of an input. -/
def cpW (w : World) (C : List Value) : World := (w.alloc (.cells ZIN.toArray 58)).setCells w.heap.size 0 C
theorem cp_there (w : World) (C : List Value) (hC : C.length = 36) : (w.alloc (.cells ZIN.toArray 58)).there w.heap.size 0 C.toArray.size := by
  have := there_new w ZIN.toArray 58 36 (by simp [ZIN_len])
  simpa [hC] using this
theorem cp_blk (w : World) (C : List Value) (hC : C.length = 36) : Blk (cpW w C) w.heap.size 58 C.toArray :=
  (Blk.new w 58 ZIN.toArray).stored C (by simp [hC, ZIN_len])
theorem cp_below (w : World) (C : List Value) : Below w.heap.size w (cpW w C) :=
  Below.setCells' ((Below.refl _ _).alloc (Nat.le_refl _) _) _ _ (Nat.le_refl _) _
theorem cp_pack (w : World) (C : List Value) (hC : C.length = 36) :
    ∃ W5, W5 = (w.alloc (.cells ZIN.toArray 58)).setCells w.heap.size 0 C ∧ Blk W5 w.heap.size 58 C.toArray ∧ Below w.heap.size w W5 ∧ W5.heap.size = w.heap.size + 1 :=
  ⟨_, rfl, cp_blk w C hC, cp_below w C, by rw [size_setCells]; simp⟩
end Go.Proofs.Ytkdkihacpjhgmaa
