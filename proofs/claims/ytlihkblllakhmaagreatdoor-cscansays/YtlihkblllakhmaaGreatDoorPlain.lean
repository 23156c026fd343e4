/- Commands of dialect C over plain lists of bytes, as the program reads them; nothing of the program is in it. -/
import Derived.Lib.Strings
namespace Go.Proofs.YtlihkblllakhmaaGreatDoor
abbrev Txt := List UInt8

/-- A byte that opens a name; one that goes on in it; a digit. -/
def digitB (c : Int) : Bool := decide (48 ≤ c ∧ c ≤ 57)
def startB (c : Int) : Bool := decide ((97 ≤ c ∧ c ≤ 122) ∨ (65 ≤ c ∧ c ≤ 90) ∨ c = 95)
def contB (c : Int) : Bool := startB c || digitB c
def start8 (c : UInt8) : Bool := startB (c.toNat : Int)
def cont8 (c : UInt8) : Bool := contB (c.toNat : Int)
def allCont (l : List UInt8) : Bool := l.all cont8
/-- Is it a name? -/
def nameB : List UInt8 → Bool
  | [] => false
  | b :: r => decide ((b :: r).length ≤ 20) && (start8 b && allCont (b :: r))
/-- A digit that an argument has. -/
def cnts (c : UInt8) : Bool := decide (49 ≤ c.toNat) && decide (c.toNat ≤ 57)
/-- The longest run of which a name could be made. -/
def nrun : List UInt8 → List UInt8
  | [] => []
  | c :: t => if start8 c then (c :: t).takeWhile cont8 else []
/-- What parts words; what parts commands; what a bare word goes up to. -/
def blkS : List UInt8 := [32, 9]
def sepS : List UInt8 := [10, 59]
def endS : List UInt8 := [32, 9, 10, 59]
def blk (c : UInt8) : Bool := blkS.contains c
def notNl (c : UInt8) : Bool := c != 10
/-- A byte that makes a dollar ahead of it a part. -/
def dolC (c : UInt8) : Bool := c == 42 || cnts c || start8 c
/-- Does a dollar's part begin here? -/
def dolB : List UInt8 → Bool
  | c :: d :: _ => c == 36 && dolC d
  | _ => false
/-- Behind the brace that shuts so many and one. -/
def passB : Nat → List UInt8 → Option (List UInt8)
  | _, [] => none
  | n, [c] => if c = 125 ∧ n = 0 then some [] else none
  | n, c :: d :: t =>
    if c = 92 then passB n t
    else if c = 123 then passB (n + 1) (d :: t)
    else if c = 125 then (if n = 0 then some (d :: t) else passB (n - 1) (d :: t))
    else passB n (d :: t)
/-- Behind the bracket that shuts so many and one, where so many braces are open. -/
def passK : Nat → Nat → List UInt8 → Option (List UInt8)
  | _, _, [] => none
  | n, m, [c] => if c = 93 ∧ m = 0 ∧ n = 0 then some [] else none
  | n, m, c :: d :: t =>
    if c = 92 then passK n m t
    else if c = 123 then passK n (m + 1) (d :: t)
    else if c = 125 then passK n (m - 1) (d :: t)
    else if c = 91 then passK (if m = 0 then n + 1 else n) m (d :: t)
    else if c = 93 then (if m = 0 then (if n = 0 then some (d :: t) else passK (n - 1) 0 (d :: t)) else passK n m (d :: t))
    else passK n m (d :: t)
/-- A piece of a word, a word, a command. -/
structure Pt where
  kind : Nat
  pos : Nat
  n : Nat
  s : List UInt8
  deriving DecidableEq
structure Wd where
  pos : Nat
  braced : Bool
  parts : List Pt
  deriving DecidableEq
structure Cm where
  pos : Nat
  words : List Wd
  deriving DecidableEq
/-- An error and its place: 0 is a name, 1 a bracket, 2 a quote, 3 a token, 4 a brace. -/
structure Er where
  code : Nat
  pos : Nat
  deriving DecidableEq
/-- A byte behind a backslash. -/
def escC (c : UInt8) : UInt8 := if c = 110 then 10 else if c = 116 then 9 else c
/-- Where a plain part ends. -/
def stopP (e : List UInt8) (l : List UInt8) : Bool := match l with
  | [] => true
  | c :: t => e.contains c || c == 91 || dolB (c :: t)
/-- One byte of a plain part, and how far it goes. -/
def pByte : List UInt8 → UInt8 × Nat
  | [] => (0, 0)
  | c :: t => if c = 92 then (match t with
      | [] => (92, 1)
      | d :: _ => (escC d, 2)) else (c, 1)
def plainL (e : List UInt8) : Nat → List UInt8 → List UInt8 × List UInt8
  | 0, l => ([], l)
  | f + 1, l => if stopP e l then ([], l) else ((pByte l).1 :: (plainL e f (l.drop (pByte l).2)).1, (plainL e f (l.drop (pByte l).2)).2)
/-- What stands behind a dollar; N is how many bytes there are in all. -/
def dollar (N : Nat) : List UInt8 → Except Er (Pt × List UInt8)
  | _ :: c :: t =>
    if c = 42 then .ok (⟨2, N - (t.length + 2), 0, [42]⟩, t)
    else if cnts c then .ok (⟨4, N - (t.length + 2), c.toNat - 48, []⟩, t)
    else if 20 < (nrun (c :: t)).length then .error ⟨0, N - (t.length + 2)⟩
    else .ok (⟨2, N - (t.length + 2), 0, nrun (c :: t)⟩, (c :: t).drop (nrun (c :: t)).length)
  | _ => .error ⟨0, 0⟩
/-- The part that begins here. -/
def partL (N : Nat) (e : List UInt8) (l : List UInt8) : Except Er (Pt × List UInt8) :=
  if l.head? = some 91 then (match passK 0 0 l.tail with
    | none => .error ⟨1, N - l.length⟩
    | some u => .ok (⟨3, N - l.length, 0, l.tail.take (l.tail.length - u.length - 1)⟩, u))
  else if dolB l then dollar N l
  else .ok (⟨1, N - l.length, 0, (plainL e l.length l).1⟩, (plainL e l.length l).2)
def partsL (N : Nat) (e : List UInt8) : Nat → List UInt8 → Except Er (List Pt × List UInt8)
  | 0, l => .ok ([], l)
  | _ + 1, [] => .ok ([], [])
  | f + 1, c :: t => if e.contains c then .ok ([], c :: t) else (match partL N e (c :: t) with
    | .error x => .error x
    | .ok (p, u) => (match partsL N e f u with
      | .error x => .error x
      | .ok (ps, v) => .ok (p :: ps, v)))
/-- A word that has to end here. -/
def closedL (N : Nat) (w : Wd) (u : List UInt8) : Except Er (Wd × List UInt8) := match u with
  | [] => .ok (w, [])
  | c :: t => if endS.contains c then .ok (w, c :: t) else .error ⟨3, N - (t.length + 1)⟩
def wordL (N : Nat) (l : List UInt8) : Except Er (Wd × List UInt8) :=
  if l.head? = some 123 then (match passB 0 l.tail with
    | none => .error ⟨4, N - l.length⟩
    | some u => closedL N ⟨N - l.length, true, [⟨1, N - l.length + 1, 0, l.tail.take (l.tail.length - u.length - 1)⟩]⟩ u)
  else if l.head? = some 34 then (match partsL N [34] l.length l.tail with
    | .error x => .error x
    | .ok (_, []) => .error ⟨2, N - l.length⟩
    | .ok (ps, _ :: u) => closedL N ⟨N - l.length, false, if ps.isEmpty then [⟨1, N - l.length, 0, []⟩] else ps⟩ u)
  else (match partsL N endS l.length l with
    | .error x => .error x
    | .ok (ps, u) => .ok (⟨N - l.length, false, ps⟩, u))
/-- Words up to what parts commands. -/
def wordsL (N : Nat) : Nat → List UInt8 → Except Er (List Wd × List UInt8)
  | 0, l => .ok ([], l)
  | _ + 1, [] => .ok ([], [])
  | f + 1, c :: t => if sepS.contains c then .ok ([], c :: t) else (match wordL N (c :: t) with
    | .error x => .error x
    | .ok (w, u) => (match wordsL N f (u.dropWhile blk) with
      | .error x => .error x
      | .ok (ws, v) => .ok (w :: ws, v)))
/-- Behind spaces, tabs, a comment. -/
def overC (l : List UInt8) : List UInt8 := if l.head? = some 35 then l.dropWhile notNl else l
def over (l : List UInt8) : List UInt8 := overC (l.dropWhile blk)
/-- A command, and what is left behind what parts it from the next. -/
def commandL (N : Nat) (l : List UInt8) : Except Er (Cm × List UInt8) := match wordsL N (over l).length (over l) with
  | .error x => .error x
  | .ok (ws, v) => .ok (⟨N - (over l).length, ws⟩, v.tail)
def scanW (T : List UInt8 → Except Er (Cm × List UInt8)) : Nat → List UInt8 → Except Er (List Cm)
  | 0, _ => .ok []
  | _ + 1, [] => .ok []
  | f + 1, c :: t => (match T (c :: t) with
    | .error x => .error x
    | .ok (m, u) => (match scanW T f u with
      | .error x => .error x
      | .ok ms => .ok (if m.words.isEmpty then ms else m :: ms)))
/-- A source's commands. -/
def scanL (l : List UInt8) : Except Er (List Cm) := scanW (commandL l.length) l.length l
/-- The text of a word that is nothing else. -/
def textL (w : Wd) : Option (List UInt8) := match w.parts with
  | [p] => if p.kind = 1 then some p.s else none
  | _ => none
end Go.Proofs.YtlihkblllakhmaaGreatDoor
