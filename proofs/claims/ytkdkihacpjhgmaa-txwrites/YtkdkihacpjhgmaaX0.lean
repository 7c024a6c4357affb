/- Transactions: the model: what is laid, what is checked, what is read. -/
import Derived.Test.YtkdkihacpjhgmaaNC
namespace Go.Proofs.Ytkdkihacpjhgmaa
set_option linter.unusedSimpArgs false
set_option linter.unusedVariables false
open Go.RowKit

/-- An input, as it is meant. -/
structure TIn where
  id : List Nat
  out : Nat
  sc : List Nat
  seq : Nat
  wit : List (List Nat)
/-- An output. -/
structure TOut where
  coins : Int
  sc : List Nat
/-- A transaction. -/
structure PTx where
  ver : Int
  ins : List TIn
  outs : List TOut
  lock : Nat

/-- Of bytes. -/
def B8 (l : List Nat) : Prop := ∀ c ∈ l, c < 256
/-- A number with a sign, as one without. -/
def uw (v : Int) : Nat := (v % 18446744073709551616).toNat
theorem uw_cast (v : Int) : v % 18446744073709551616 = (uw v : Int) := by unfold uw; omega
theorem uw_lt (v : Int) : uw v < 18446744073709551616 := by unfold uw; omega

def txt (s : List Nat) : List Nat := M.compB s.length ++ s
def inB (x : TIn) : List Nat := ((x.id ++ M.leB x.out 4) ++ txt x.sc) ++ M.leB x.seq 4
def outB (o : TOut) : List Nat := M.leB (uw o.coins) 8 ++ txt o.sc
def witB (x : TIn) : List Nat := M.compB x.wit.length ++ x.wit.flatMap txt
/-- What stands ahead of the inputs. -/
def preB (t : PTx) (b : Bool) : List Nat := M.leB (uw t.ver) 4 ++ (if b then [0, 1] else [])
/-- A transaction's bytes. -/
def layB (t : PTx) (b : Bool) : List Nat :=
  (((((preB t b ++ M.compB t.ins.length) ++ t.ins.flatMap inB) ++ M.compB t.outs.length) ++ t.outs.flatMap outB) ++ (if b then t.ins.flatMap witB else [])) ++ M.leB t.lock 4
def hasW (t : PTx) : Bool := t.ins.any fun x => decide (0 < x.wit.length)
/-- What is wrong with an input. -/
def chkI (x : TIn) : Nat := if 100 < x.wit.length then 3 else if 10000 < x.sc.length then 6 else if x.wit.any (fun p => decide (10000 < p.length)) then 6 else 0
/-- .. the first that something is wrong with. -/
def chkL : List TIn → Nat
  | [] => 0
  | x :: r => if chkI x = 0 then chkL r else chkI x
def chk (t : PTx) : Nat :=
  if t.ins.length = 0 ∨ t.outs.length = 0 then 1
  else if 1024 < t.ins.length ∨ 1024 < t.outs.length then 3
  else if chkL t.ins ≠ 0 then chkL t.ins
  else if t.outs.any (fun o => decide (10000 < o.sc.length)) then 6 else 0
/-- How many bytes all texts have. -/
def sumL : List (List Nat) → Nat
  | [] => 0
  | p :: r => p.length + sumL r
def sumI : List TIn → Nat
  | [] => 0
  | x :: r => (x.sc.length + sumL x.wit) + sumI r
def sumO : List TOut → Nat
  | [] => 0
  | o :: r => o.sc.length + sumO r
def textN (t : PTx) : Nat := sumI t.ins + sumO t.outs
/-- A transaction's bytes, or why it has none. -/
def encE (t : PTx) : Nat := if chk t ≠ 0 then chk t else if 65536 < textN t then 6 else if 65536 < (layB t (hasW t)).length then 6 else 0

/-- A reader: what is left, the first error. -/
abbrev TS := List Nat × Nat
def tk (s : TS) (k : Nat) : List Nat × TS := if s.2 ≠ 0 then ([], s) else if s.1.length < k then ([], (s.1, 8)) else (s.1.take k, (s.1.drop k, 0))
def rN (s : TS) (k : Nat) : Nat × TS := (M.lv (tk s k).1 (min (tk s k).1.length 8), (tk s k).2)
def rH (s : TS) : List Nat × TS := ((tk s 32).1 ++ List.replicate (32 - (tk s 32).1.length) 0, (tk s 32).2)
def rC (s : TS) (most : Nat) : Nat × TS :=
  if s.2 ≠ 0 then (0, s) else if M.xe s.1 ≠ 0 then (0, (s.1, M.xe s.1)) else if most < M.xnum s.1 then (0, (s.1, 2)) else (M.xnum s.1, (s.1.drop (M.xk s.1), 0))
def rT (s : TS) : List Nat × TS := tk (rC s 10000).2 (rC s 10000).1
def rW (s : TS) : Bool × TS := if s.2 = 0 ∧ s.1.take 2 = [0, 1] then (true, (s.1.drop 2, 0)) else (false, s)
def rIn (s : TS) : TIn × TS :=
  ({ id := (rH s).1, out := (rN (rH s).2 4).1, sc := (rT (rN (rH s).2 4).2).1, seq := (rN (rT (rN (rH s).2 4).2).2 4).1, wit := [] }, (rN (rT (rN (rH s).2 4).2).2 4).2)
def rOut (s : TS) : TOut × TS := ({ coins := IntKind.i64.wrap ((rN s 8).1 : Int), sc := (rT (rN s 8).2).1 }, (rT (rN s 8).2).2)
def rIns : Nat → TS → List TIn → List TIn × TS
  | 0, s, L => (L, s)
  | n + 1, s, L => if s.2 ≠ 0 then (L, s) else rIns n (rIn s).2 (L ++ [(rIn s).1])
def rOuts : Nat → TS → List TOut → List TOut × TS
  | 0, s, L => (L, s)
  | n + 1, s, L => if s.2 ≠ 0 then (L, s) else rOuts n (rOut s).2 (L ++ [(rOut s).1])
def rParts : Nat → TS → List (List Nat) → List (List Nat) × TS
  | 0, s, L => (L, s)
  | n + 1, s, L => if s.2 ≠ 0 then (L, s) else rParts n (rT s).2 (L ++ [(rT s).1])
def rP (s : TS) : List (List Nat) × TS := rParts (rC s 100).1 (rC s 100).2 []
def rWits : List TIn → TS → List TIn × TS
  | [], s => ([], s)
  | x :: r, s => ({ x with wit := (rP s).1 } :: (rWits r (rP s).2).1, (rWits r (rP s).2).2)
/-- A transaction, and whether witnesses were told. -/
def rTx (s : TS) : PTx × Bool × TS :=
  let a := rN s 4
  let b := rW a.2
  let c := rC b.2 1024
  let d := rIns c.1 c.2 []
  let e := rC d.2 1024
  let f := rOuts e.1 e.2 []
  let g := if b.1 then rWits d.1 f.2 else (d.1, f.2)
  let h := rN g.2 4
  ({ ver := IntKind.i32.wrap (a.1 : Int), ins := g.1, outs := f.1, lock := h.1 }, b.1, h.2)
/-- The error that is told, if more is asked for than there is. -/
def ends (b : List Nat) : Nat := if 65536 < b.length then 2 else 8
def told (n e : Nat) : Nat := if e = 8 then n else e
def nil0 : PTx := { ver := 0, ins := [], outs := [], lock := 0 }
/-- The transaction that bytes begin with, how many bytes, the error. -/
def dec (b : List Nat) : PTx × Nat × Nat :=
  let r := rTx (b.take 65536, 0)
  if r.2.2.2 ≠ 0 then (nil0, 0, told (ends b) r.2.2.2)
  else if r.1.ins.length = 0 ∨ r.1.outs.length = 0 ∨ (r.2.1 = true ∧ hasW r.1 = false) then (nil0, 0, 2)
  else (r.1, (b.take 65536).length - r.2.2.1.length, 0)
end Go.Proofs.Ytkdkihacpjhgmaa
