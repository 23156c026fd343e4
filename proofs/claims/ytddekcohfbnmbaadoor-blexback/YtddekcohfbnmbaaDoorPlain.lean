/- Tokens of dialect B over plain lists of bytes, as the program reads them; nothing of the program is in it. -/
import Derived.Lib.Strings
namespace Go.Proofs.YtddekcohfbnmbaaDoor
abbrev Txt := List UInt8

/-- A byte that opens a name; one that goes on in it; a digit. -/
def digitB (c : Int) : Bool := decide (48 ≤ c ∧ c ≤ 57)
def startB (c : Int) : Bool := decide ((97 ≤ c ∧ c ≤ 122) ∨ (65 ≤ c ∧ c ≤ 90) ∨ c = 95)
def contB (c : Int) : Bool := startB c || digitB c
def start8 (c : UInt8) : Bool := startB (c.toNat : Int)
def cont8 (c : UInt8) : Bool := contB (c.toNat : Int)
def allCont (l : List UInt8) : Bool := l.all cont8
/-- Is it a name? -/
def nameB : List UInt8 → Bool
  | [] => false
  | b :: r => decide ((b :: r).length ≤ 20) && (start8 b && allCont (b :: r))
/-- A digit that an argument has. -/
def cnts (c : UInt8) : Bool := decide (49 ≤ c.toNat) && decide (c.toNat ≤ 57)
/-- The longest run of which a name could be made. -/
def nrun : List UInt8 → List UInt8
  | [] => []
  | c :: t => if start8 c then (c :: t).takeWhile cont8 else []
/-- A byte of a word. -/
def inW (c : UInt8) : Bool := !(c == 32 || c == 9 || c == 10) && !([59, 38, 124, 40, 41, 123, 125, 60, 62, 94, 61, 33, 36, 96, 39, 35].contains c)
structure Tb where
  kind : Nat
  pos : Nat
  n : Nat
  s : List UInt8
  glue : Bool
  deriving DecidableEq
/-- An error and its place: 0 is a name, 2 a quote, 3 a token. -/
structure Er where
  code : Nat
  pos : Nat
  deriving DecidableEq
/-- What stands between quotes, behind the first one: as it is written, and what is behind the last. -/
def qraw : List UInt8 → Option (List UInt8 × List UInt8)
  | [] => none
  | [c] => if c = 39 then some ([], []) else none
  | c :: d :: t => if c = 39 then (if d = 39 then (qraw t).map (fun q => (39 :: 39 :: q.1, q.2)) else some ([], d :: t)) else (qraw (d :: t)).map (fun q => (c :: q.1, q.2))
/-- Two quotes are one. -/
def unq : List UInt8 → List UInt8
  | [] => []
  | [c] => [c]
  | c :: d :: t => if c = 39 ∧ d = 39 then 39 :: unq t else c :: unq (d :: t)
/-- How each kind of token is written. -/
def sgn : Nat → List UInt8
  | 1 => [10]
  | 2 => [59]
  | 3 => [38, 38]
  | 4 => [124, 124]
  | 5 => [124]
  | 6 => [40]
  | 7 => [41]
  | 8 => [123]
  | 9 => [125]
  | 10 => [96, 123]
  | 11 => [60]
  | 12 => [62]
  | 13 => [62, 62]
  | 14 => [60, 60, 60]
  | 15 => [94]
  | 16 => [61]
  | 17 => [33]
  | _ => []
/-- The longest of the first k signs that stands here. -/
def best : Nat → List UInt8 → Nat
  | 0, _ => 0
  | k + 1, l => if (sgn (best k l)).length < (sgn k).length ∧ (sgn k).isPrefixOf l = true then k else best k l
def blk (c : UInt8) : Bool := c == 32 || c == 9
def notNl (c : UInt8) : Bool := c != 10
/-- Behind spaces and tabs; behind a comment. -/
def overC (l : List UInt8) : List UInt8 := if l.head? = some 35 then l.dropWhile notNl else l
def over (l : List UInt8) : List UInt8 := overC (l.dropWhile blk)
/-- The variable of a name that stands here. -/
def varR (k p : Nat) (g : Bool) (l : List UInt8) : Except Er (Tb × List UInt8) :=
  if l.head? = some 42 then .ok (⟨k, p, 0, [42], g⟩, l.drop 1)
  else if nameB (nrun l) then .ok (⟨k, p, 0, nrun l, g⟩, l.drop (nrun l).length) else .error ⟨0, p⟩
/-- What stands behind a dollar. -/
def dollar (p : Nat) (g : Bool) (t : List UInt8) : Except Er (Tb × List UInt8) :=
  if t.head? = some 35 then varR 21 p g (t.drop 1)
  else if t.head? = some 34 then varR 22 p g (t.drop 1)
  else if cnts (t.head?.getD 0) then .ok (⟨23, p, (t.head?.getD 0).toNat - 48, [], g⟩, t.drop 1)
  else varR 20 p g t
/-- What is written here, where no sign stands. -/
def writ (p : Nat) (g : Bool) (c : UInt8) (t : List UInt8) : Except Er (Tb × List UInt8) :=
  if c = 39 then (match qraw t with
    | none => .error ⟨2, p⟩
    | some q => .ok (⟨19, p, 0, unq q.1, g⟩, q.2))
  else if c = 36 then dollar p g t
  else if c = 38 ∨ c = 96 then .error ⟨3, p⟩
  else .ok (⟨18, p, 0, (c :: t).takeWhile inW, g⟩, (c :: t).dropWhile inW)
/-- The token at m; whether it is glued to what is ahead. -/
def tokenM (N : Nat) (g : Bool) (m : List UInt8) : Except Er (Tb × List UInt8) :=
  if best 18 m ≠ 0 then .ok (⟨best 18 m, N - m.length, 0, [], g⟩, m.drop (sgn (best 18 m)).length)
  else (match m with
    | [] => .ok (⟨0, N, 0, [], g⟩, [])
    | c :: t => writ (N - (t.length + 1)) g c t)
def glueB (N : Nat) (l m : List UInt8) : Bool := decide (0 < N - l.length) && decide (l.length = m.length)
def tokenL (N : Nat) (l : List UInt8) : Except Er (Tb × List UInt8) := tokenM N (glueB N l (over l)) (over l)
/-- Tokens one behind the other, by any reader of one token. -/
def lexW (T : List UInt8 → Except Er (Tb × List UInt8)) : Nat → List UInt8 → Except Er (List Tb)
  | 0, _ => .ok []
  | f + 1, l => (match T l with
    | .error e => .error e
    | .ok (t, u) => if t.kind = 0 then .ok [t] else (match lexW T f u with
      | .error e => .error e
      | .ok ts => .ok (t :: ts)))
/-- A source's tokens. -/
def lexL (l : List UInt8) : Except Er (List Tb) := lexW (tokenL l.length) (l.length + 1) l
end Go.Proofs.YtddekcohfbnmbaaDoor
