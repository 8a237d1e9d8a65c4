/-
  The reader as a plain function: what is read, what is wrong, where it stands then. Nothing of memory.
-/
import Derived.Test.YtikmgckefbjbkaaGreatDoorRead1
import Derived.Test.YtikmgckefbjbkaaGreatDoorNames
namespace Go.Proofs.YtikmgckefbjbkaaGreatDoor
open Go.RowKit

/-- Where the reader stands: the place, the nodes, the groups that have begun, those that are open. -/
structure St where
  i : Nat
  n : Nat
  g : Nat
  d : Nat
structure Out where
  r : Rx
  e : Nat
  st : St

def W4.z : W4 := ⟨0, 0, 0, 0⟩
def rx0 : Rx := .mk 0 0 0 0 W4.z []
def Rx.k : Rx → Int | .mk k _ _ _ _ _ => k
def rset (p : Nat → Bool) : Rx := .mk 1 0 0 0 (W4.of p) []

def pTake (sz : Nat) (r : Rx) (t : St) : Out := ⟨r, 0, ⟨t.i + sz, t.n + 1, t.g, t.d⟩⟩

/-- The named classes. -/
def cls (l : List UInt8) : Option (Nat → Bool) :=
  if l = [97, 108, 112, 104, 97] then some cAlpha else if l = [100, 105, 103, 105, 116] then some cDigit else if l = [97, 108, 110, 117, 109] then some cAlnum
  else if l = [117, 112, 112, 101, 114] then some cUpper else if l = [108, 111, 119, 101, 114] then some cLower else if l = [115, 112, 97, 99, 101] then some cSpace
  else if l = [98, 108, 97, 110, 107] then some cBlank else if l = [112, 117, 110, 99, 116] then some cPunct else if l = [112, 114, 105, 110, 116] then some cPrint
  else if l = [103, 114, 97, 112, 104] then some cGraph else if l = [99, 110, 116, 114, 108] then some cCntrl else if l = [120, 100, 105, 103, 105, 116] then some cXdigit else none

def pClass (s : ByteArray) (i : Nat) : Option (Nat → Bool) × Nat :=
  let c := Lib.cut (s.data.toList.drop (i + 2)) [58, 93]
  if c.2.2 then match cls c.1 with
    | some q => (some q, s.size - c.2.1.length)
    | none => (none, i)
  else (none, i)

def pIn (s : ByteArray) (i : Nat) : Option (Nat → Bool) × Nat :=
  if i = s.size then (none, i)
  else if pfx s i [91, 58] then pClass s i
  else if dash s (i + 1) then
    if pfx s (i + 2) [91, 58] || decide (ch s (i + 2) < ch s i) then (none, i + 2) else (some (rng (ch s i) (ch s (i + 2))), i + 3)
  else (some (addB (fun _ => false) (ch s i)), i + 1)

def pBrL (s : ByteArray) : Nat → (Nat → Bool) → Nat → Option (Nat → Bool) × Nat
  | 0, _, i => (none, i)
  | f + 1, p, i => if pfx s i [93] then (some p, i + 1) else match pIn s i with
    | (none, j) => (none, j)
    | (some q, j) => pBrL s f (orB p q) j

def pBr (s : ByteArray) (i : Nat) : Option (Nat → Bool) × Nat := match pIn s i with
  | (none, j) => (none, j)
  | (some q, j) => pBrL s (s.size + 1) q j

def bTurn (s : ByteArray) (i : Nat) : Bool := pfx s (i + 1) [94]
def bFrom (s : ByteArray) (i : Nat) : Nat := if bTurn s i then i + 2 else i + 1

def pBracket (s : ByteArray) (t : St) : Out := match pBr s (bFrom s t.i) with
  | (none, j) => ⟨rx0, 1, ⟨j, t.n, t.g, t.d⟩⟩
  | (some p, j) =>
    let q := if bTurn s t.i then notB p else p
    if cnt q 256 = 0 then ⟨rx0, 1, t⟩ else ⟨rset q, 0, ⟨j, t.n + 1, t.g, t.d⟩⟩

def pNumL (s : ByteArray) : Nat → Nat → Bool → Nat → Nat × Bool × Nat
  | 0, n, ok, i => (n, ok, i)
  | f + 1, n, ok, i => if decide (i < s.size) && rng 48 57 (ch s i) then pNumL s f (min (10 * n + (ch s i - 48)) 21) true (i + 1) else (n, ok, i)
def pNum (s : ByteArray) (i : Nat) : Nat × Bool × Nat := pNumL s (s.size + 1) 0 false i

def timesFit (a b : Int) : Bool := if a < 0 ∨ a > 20 then false else b == -1 || (decide (max a 1 ≤ b) && decide (b ≤ 20))

/-- What closes an interval. -/
def closeB (ere : Bool) : List UInt8 := if ere then [125] else [92, 125]
/-- The greatest of an interval, and where it ends. -/
def pHigh (s : ByteArray) (lo i : Nat) : Int × Nat := if pfx s i [44] then (if (pNum s (i + 1)).2.1 then ((pNum s (i + 1)).1 : Int) else -1, (pNum s (i + 1)).2.2) else ((lo : Int), i)
def pInt (s : ByteArray) (ere : Bool) (i sz : Nat) : Option (Int × Int) × Nat :=
  let a := pNum s (i + sz)
  if a.2.1 then
    let h := pHigh s a.1 a.2.2
    if pfx s h.2 (closeB ere) then
      if timesFit a.1 h.1 then (some ((a.1 : Int), h.1), h.2 + (closeB ere).length) else (none, i)
    else (none, h.2)
  else (none, a.2.2)

def rrep (a b : Int) (r : Rx) : Rx := .mk 4 a b 0 W4.z [r]
def pRep (s : ByteArray) (ere : Bool) (r : Rx) (t : St) : Out :=
  let g := sgn s ere t.i
  if g.1 = 10 then pTake g.2.2 (rrep 0 (-1) r) t
  else if g.1 = 11 then pTake g.2.2 (rrep 1 (-1) r) t
  else if g.1 = 12 then pTake g.2.2 (rrep 0 1 r) t
  else if g.1 = 13 then match pInt s ere t.i g.2.2 with
    | (none, j) => ⟨rx0, 1, ⟨j, t.n, t.g, t.d⟩⟩
    | (some (a, b), j) => pTake 0 (rrep a b r) ⟨j, t.n, t.g, t.d⟩
  else ⟨r, 0, t⟩

def plainIn (s : ByteArray) (began i k : Nat) : Bool :=
  if k = 10 then decide (i = began) || (decide (i = began + 1) && ch s began == 94)
  else if k = 5 then !decide (i = began)
  else if k = 6 then (let x := (sgn s false (i + 1)).1; decide (x ≠ 1) && decide (x ≠ 8))
  else false
def sgnIn (s : ByteArray) (ere : Bool) (began i : Nat) : Nat × Nat × Nat :=
  let g := sgn s ere i
  if ere then g else if plainIn s began i g.1 then (2, g.2.1, g.2.2) else g

def pBack (b sz : Nat) (t : St) : Out := if b < 49 ∨ t.g + 48 < b then ⟨rx0, 1, t⟩ else pTake sz (.mk 6 0 0 ((b : Int) - 48) W4.z []) t

def pGroup (c : St → Out) (s : ByteArray) (ere : Bool) (sz : Nat) (t : St) : Out :=
  if t.d = 6 then ⟨rx0, 2, t⟩ else
  let o := c ⟨t.i + sz, t.n, t.g + 1, t.d + 1⟩
  if o.e ≠ 0 then ⟨rx0, o.e, o.st⟩ else
  let h := sgn s ere o.st.i
  if h.1 ≠ 8 then ⟨rx0, 1, o.st⟩ else pTake h.2.2 (.mk 5 0 0 ((t.g + 1 : Nat) : Int) W4.z [o.r]) ⟨o.st.i, o.st.n, o.st.g, o.st.d - 1⟩

def pOne (c : St → Out) (s : ByteArray) (ere : Bool) (k b sz : Nat) (t : St) : Out :=
  if k = 2 then pTake sz (rset (addB (fun _ => false) b)) t
  else if k = 3 then pTake sz (rset (notB (fun _ => false))) t
  else if k = 5 then pTake sz (.mk 7 0 0 0 W4.z []) t
  else if k = 6 then pTake sz (.mk 8 0 0 0 W4.z []) t
  else if k = 14 then pBack b sz t
  else if k = 4 then pBracket s t
  else if k = 7 then pGroup c s ere sz t
  else ⟨rx0, 1, t⟩

def mayRep (k : Int) : Bool := k == 1 || k == 5 || k == 6
def pPart (c : St → Out) (s : ByteArray) (ere : Bool) (began : Nat) (t : St) : Out :=
  let g := sgnIn s ere began t.i
  let o := pOne c s ere g.1 g.2.1 g.2.2 t
  if o.e ≠ 0 ∨ mayRep o.r.k = false then o else pRep s ere o.r o.st

def ends (k : Nat) : Bool := k == 1 || k == 9 || k == 8
def keepL (n : Nat) (ks : List Rx) (r : Rx) : List Rx := if n > 40 then ks else ks ++ [r]
def rowOut (ks : List Rx) (t : St) : Out := match ks with
  | [r] => ⟨r, 0, t⟩
  | _ => ⟨.mk 2 0 0 0 W4.z ks, 0, ⟨t.i, t.n + 1, t.g, t.d⟩⟩
def pRowL (c : St → Out) (s : ByteArray) (ere : Bool) (began : Nat) : Nat → List Rx → St → Out
  | 0, _, t => ⟨rx0, 1, t⟩
  | f + 1, ks, t => if ends (sgn s ere t.i).1 then rowOut ks t else
    let o := pPart c s ere began t
    if o.e ≠ 0 then ⟨rx0, o.e, o.st⟩ else pRowL c s ere began f (keepL o.st.n ks o.r) o.st
def pRow (c : St → Out) (s : ByteArray) (ere : Bool) (t : St) : Out := pRowL c s ere t.i (s.size + 1) [] t
def pChL (c : St → Out) (s : ByteArray) (ere : Bool) : Nat → List Rx → St → Out
  | 0, _, t => ⟨rx0, 1, t⟩
  | f + 1, ks, t => if (sgn s ere t.i).1 = 9 then
      let o := pRow c s ere ⟨t.i + 1, t.n, t.g, t.d⟩
      if o.e ≠ 0 then ⟨rx0, o.e, o.st⟩ else pChL c s ere f (keepL o.st.n ks o.r) o.st
    else ⟨.mk 3 0 0 0 W4.z ks, 0, ⟨t.i, t.n + 1, t.g, t.d⟩⟩
def pCh1 (c : St → Out) (s : ByteArray) (ere : Bool) (t : St) : Out :=
  let o := pRow c s ere t
  if o.e ≠ 0 ∨ (sgn s ere o.st.i).1 ≠ 9 then o else pChL c s ere (s.size + 1) [o.r] o.st
def pCh (s : ByteArray) (ere : Bool) : Nat → St → Out
  | 0, t => ⟨rx0, 1, t⟩
  | D + 1, t => pCh1 (pCh s ere D) s ere t
def pWhole (s : ByteArray) (ere : Bool) : Out :=
  let o := pCh s ere 7 ⟨0, 0, 0, 0⟩
  if o.e ≠ 0 then ⟨rx0, o.e, o.st⟩ else if o.st.i < s.size then ⟨rx0, 1, o.st⟩ else if o.st.n > 40 ∨ o.st.g > 3 then ⟨rx0, 4, o.st⟩ else o
/-- What Parse answers. -/
def pParse (s : ByteArray) (ere : Bool) : Rx × Nat × Nat :=
  let o := pWhole s ere
  if o.e ≠ 0 then (rx0, o.st.i, o.e) else (o.r, 0, 0)
end Go.Proofs.YtikmgckefbjbkaaGreatDoor
