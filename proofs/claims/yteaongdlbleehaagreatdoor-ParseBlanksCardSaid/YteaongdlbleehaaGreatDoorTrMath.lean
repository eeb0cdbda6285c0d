/- The tree layer: programs as plain trees, and what the document says of them, as functions of lists of bytes. -/
import Derived.Laws.RangeAny
import Derived.Laws.Runes
namespace Go.Proofs.YteaongdlbleehaaGreatDoor

/-- An expression: its Op, its Name, its N, its parts, its place. -/
inductive Ex where
  | mk (op nm : ByteArray) (n : Int) (l : List Ex) (a : Int)
/-- A statement: its Op, its Name, its expressions, its two rows of statements, its place. -/
inductive St where
  | mk (op nm : ByteArray) (e : List Ex) (A B : List St) (a : Int)
def Ex.op : Ex → ByteArray | .mk o _ _ _ _ => o
def Ex.nm : Ex → ByteArray | .mk _ o _ _ _ => o
def Ex.n : Ex → Int | .mk _ _ k _ _ => k
def Ex.l : Ex → List Ex | .mk _ _ _ l _ => l
def Ex.a : Ex → Int | .mk _ _ _ _ a => a
def St.op : St → ByteArray | .mk o _ _ _ _ _ => o
def St.nm : St → ByteArray | .mk _ o _ _ _ _ => o
def St.e : St → List Ex | .mk _ _ e _ _ _ => e
def St.A : St → List St | .mk _ _ _ A _ _ => A
def St.B : St → List St | .mk _ _ _ _ B _ => B
def St.a : St → Int | .mk _ _ _ _ _ a => a

/-! ### Numbers: how many, how deep -/
mutual
def szE : Ex → Nat
  | .mk _ _ _ l _ => 1 + szL l
def szL : List Ex → Nat
  | [] => 0
  | e :: r => szE e + szL r
end
mutual
def szS : St → Nat
  | .mk _ _ e A B _ => 1 + szL e + szB A + szB B
def szB : List St → Nat
  | [] => 0
  | s :: r => szS s + szB r
end
mutual
def deepE : Ex → Nat
  | .mk _ _ _ l _ => 1 + deepL l
def deepL : List Ex → Nat
  | [] => 0
  | e :: r => max (deepE e) (deepL r)
end
/- One more than the greatest depth of a statement's rows; of a row, the greatest of these. -/
mutual
def depS : St → Nat
  | .mk _ _ _ A B _ => 1 + max (depB A) (depB B)
def depB : List St → Nat
  | [] => 0
  | s :: r => max (depS s) (depB r)
end

/-! ### The same -/
mutual
def sameE : Ex → Ex → Bool
  | .mk o n k l _, .mk o' n' k' l' _ => (o.toList == o'.toList) && ((n.toList == n'.toList) && ((k == k') && sameL l l'))
def sameL : List Ex → List Ex → Bool
  | [], [] => true
  | e :: r, e' :: r' => sameE e e' && sameL r r'
  | _, _ => false
end
mutual
def sameS : St → St → Bool
  | .mk o n e A B _, .mk o' n' e' A' B' _ => (o.toList == o'.toList) && ((n.toList == n'.toList) && (sameL e e' && (sameB A A' && sameB B B')))
def sameB : List St → List St → Bool
  | [], [] => true
  | s :: r, s' :: r' => sameS s s' && sameB r r'
  | _, _ => false
end

/-! ### The kinds of Ops -/
abbrev Bs := List UInt8
def oNum : Bs := [110, 117, 109]
def oName : Bs := [110, 97, 109, 101]
def oAt : Bs := [97, 116]
def oTrue : Bs := [116, 114, 117, 101]
def oFalse : Bs := [102, 97, 108, 115, 101]
def oNeg : Bs := [110, 101, 103]
def oNot : Bs := [110, 111, 116]
def twos : List Bs := [[43], [45], [42], [47], [61, 61], [33, 61], [60], [60, 61], [62], [62, 61], [38, 38], [124, 124]]
def ofTwoO (o : ByteArray) : Bool := twos.contains o.toList
/-- Does an expression want brackets where it is a part? -/
def opensO (o : ByteArray) : Bool := (o.toList == oNeg) || ((o.toList == oNot) || ofTwoO o)

/-! ### What is written -/
/-- The digits of a number as they are written: the document's of a number from 0 on. -/
def clo (p : Bs × Bool) : Bs := if p.2 then [40] ++ p.1 ++ [41] else p.1
def part0 (ts : List (Bs × Bool)) (i : Nat) : Bs := (ts[i]?.map (·.1)).getD []
def clos (ts : List (Bs × Bool)) (i : Nat) : Bs := (ts[i]?.map clo).getD []
/-- An expression's text, by the texts of its parts. -/
def form (dig : Int → Bs) (o nm : ByteArray) (n : Int) (ts : List (Bs × Bool)) : Bs :=
  if o.toList == oNum then dig n else if o.toList == oName then nm.data.toList
  else if o.toList == oAt then nm.data.toList ++ [91] ++ part0 ts 0 ++ [93]
  else if o.toList == oNeg then [45] ++ clos ts 0 else if o.toList == oNot then [33] ++ clos ts 0
  else if ofTwoO o then clos ts 0 ++ [32] ++ o.data.toList ++ [32] ++ clos ts 1
  else o.data.toList
mutual
def textE (dig : Int → Bs) : Ex → Bs
  | .mk o nm n l _ => form dig o nm n (textL dig l)
def textL (dig : Int → Bs) : List Ex → List (Bs × Bool)
  | [] => []
  | e :: r => (textE dig e, opensO e.op) :: textL dig r
end
/-! ### Statements -/
def sSet : Bs := [115, 101, 116]
def sPut : Bs := [112, 117, 116]
def sInput : Bs := [105, 110, 112, 117, 116]
def sIf : Bs := [105, 102]
def sWhile : Bs := [119, 104, 105, 108, 101]
def sAssert : Bs := [97, 115, 115, 101, 114, 116]
def sAssume : Bs := [97, 115, 115, 117, 109, 101]
def sCall : Bs := [99, 97, 108, 108]
def sSkip : Bs := [115, 107, 105, 112]
/-- So many times two blanks. -/
def ind : Nat → Bs
  | 0 => []
  | n + 1 => [32, 32] ++ ind n
def placeF (nm : ByteArray) (ts : List (Bs × Bool)) : Bs := nm.data.toList ++ [91] ++ part0 ts 0 ++ [93]
def endsF (ts : List (Bs × Bool)) : Bs := if ts.length = 0 then [] else [40] ++ part0 ts 0 ++ [44, 32] ++ part0 ts 1 ++ [41]
/-- A statement in a line of its own, without its end. -/
def simpleF (o nm : ByteArray) (ts : List (Bs × Bool)) : Bs :=
  if o.toList == sSet then nm.data.toList ++ [32, 61, 32] ++ part0 ts 0
  else if o.toList == sPut then placeF nm ts ++ [32, 61, 32] ++ part0 ts 1
  else if o.toList == sInput then nm.data.toList ++ [32, 61, 32, 105, 110, 112, 117, 116] ++ endsF ts
  else if (o.toList == sAssert) || (o.toList == sAssume) then o.data.toList ++ [32] ++ part0 ts 0
  else if o.toList == sCall then [99, 97, 108, 108, 32] ++ nm.data.toList
  else o.data.toList
/-- A block, of the lines in it. -/
def blockF (d : Nat) (rows : Bs) : Bs := [32, 123, 10] ++ rows ++ ind d ++ [125]
def stmtF (o nm : ByteArray) (ts : List (Bs × Bool)) (ra rb : Bs) (nb d : Nat) : Bs :=
  if (o.toList == sIf) || (o.toList == sWhile) then
    o.data.toList ++ [32] ++ part0 ts 0 ++ blockF d ra ++ (if (o.toList == sIf) && decide (0 < nb) then [32, 101, 108, 115, 101] ++ blockF d rb else [])
  else simpleF o nm ts ++ [59]
mutual
def textS (dig : Int → Bs) : St → Nat → Bs
  | .mk o nm e A B _, d => stmtF o nm (textL dig e) (textB dig A (d + 1)) (textB dig B (d + 1)) B.length d
def textB (dig : Int → Bs) : List St → Nat → Bs
  | [], _ => []
  | s :: r, d => ind d ++ textS dig s d ++ [10] ++ textB dig r d
end
/-! ### Programs -/
structure Pg where
  enums : List (ByteArray × List ByteArray)
  vars : List (ByteArray × ByteArray × Int)
  procs : List (ByteArray × List St)
  main : List St
def enumF (e : ByteArray × List ByteArray) : Bs := [101, 110, 117, 109, 32] ++ e.1.data.toList ++ [32, 123, 32] ++ (List.intercalate [44, 32] (e.2.map (·.data.toList))) ++ [32, 125, 10]
def varF (dig : Int → Bs) (v : ByteArray × ByteArray × Int) : Bs := [118, 97, 114, 32] ++ v.1.data.toList ++ [58, 32] ++ v.2.1.data.toList ++ (if 0 < v.2.2 then [91] ++ dig v.2.2 ++ [93] else []) ++ [59, 10]
def procF (dig : Int → Bs) (q : ByteArray × List St) : Bs := [112, 114, 111, 99, 32] ++ q.1.data.toList ++ blockF 0 (textB dig q.2 1) ++ [10]
def printF (dig : Int → Bs) (p : Pg) : Bs := p.enums.flatMap enumF ++ p.vars.flatMap (varF dig) ++ p.procs.flatMap (procF dig) ++ [109, 97, 105, 110] ++ blockF 0 (textB dig p.main 1) ++ [10]
def sameP (p q : Pg) : Bool :=
  (p.enums.length == q.enums.length) && (List.all (p.enums.zip q.enums) fun z => (z.1.1.toList == z.2.1.toList) && ((z.1.2.length == z.2.2.length) && (List.all (z.1.2.zip z.2.2) fun y => y.1.toList == y.2.toList))) &&
  ((p.vars.length == q.vars.length) && (List.all (p.vars.zip q.vars) fun z => (z.1.1.toList == z.2.1.toList) && ((z.1.2.1.toList == z.2.2.1.toList) && (z.1.2.2 == z.2.2.2)))) &&
  ((p.procs.length == q.procs.length) && (List.all (p.procs.zip q.procs) fun z => (z.1.1.toList == z.2.1.toList) && sameB z.1.2 z.2.2)) &&
  sameB p.main q.main
end Go.Proofs.YteaongdlbleehaaGreatDoor
