/- Tokens of dialect A over plain lists of bytes, as the program reads them; nothing of the program is in it. -/
import Derived.Lib.Strings
namespace Go.Proofs.YtnlbjgioleoihaaGreatDoor
abbrev Txt := List UInt8

/-- A byte that opens a name; one that goes on in it; a digit. -/
def digitB (c : Int) : Bool := decide (48 ≤ c ∧ c ≤ 57)
def startB (c : Int) : Bool := decide ((97 ≤ c ∧ c ≤ 122) ∨ (65 ≤ c ∧ c ≤ 90) ∨ c = 95)
def contB (c : Int) : Bool := startB c || digitB c
def start8 (c : UInt8) : Bool := startB (c.toNat : Int)
def cont8 (c : UInt8) : Bool := contB (c.toNat : Int)
def allCont (l : List UInt8) : Bool := l.all cont8
/-- Is it a name? -/
def nameB : List UInt8 → Bool
  | [] => false
  | b :: r => decide ((b :: r).length ≤ 20) && (start8 b && allCont (b :: r))
/-- A byte that a word goes up to; one that living text goes up to. -/
def wEnd (c : UInt8) : Bool := [32, 9, 10, 59, 38, 124, 40, 41, 60, 62].contains c
def tEnd (c : UInt8) : Bool := [32, 9, 10, 59, 38, 124, 40, 41, 60, 62, 92, 39, 34].contains c
/-- A digit that an argument has. -/
def cnts (c : UInt8) : Bool := decide (49 ≤ c.toNat) && decide (c.toNat ≤ 57)
/-- The longest run of which a name could be made. -/
def nrun : List UInt8 → List UInt8
  | [] => []
  | c :: t => if start8 c then (c :: t).takeWhile cont8 else []
/-- A byte that makes a dollar ahead of it a part. -/
def dolC (c : UInt8) : Bool := [40, 123, 42, 35].contains c || cnts c || start8 c
/-- Does a dollar's part begin here? -/
def dolB : List UInt8 → Bool
  | c :: d :: _ => c == 36 && dolC d
  | _ => false
/-- Behind the next single quote. -/
def pSing : List UInt8 → Option (List UInt8)
  | [] => none
  | c :: t => if c = 39 then some t else pSing t
/-- Behind what ends a text between double quotes (0), or a command's text with so many brackets open. -/
def pass : Nat → Nat → List UInt8 → Option (List UInt8)
  | 0, _, _ => none
  | _ + 1, _, [] => none
  | f + 1, 0, c :: t =>
    if c = 34 then some t
    else if c = 92 then pass f 0 t.tail
    else if c = 36 ∧ t.head? = some 40 then (pass f 1 t.tail).bind (pass f 0)
    else pass f 0 t
  | f + 1, k + 1, c :: t =>
    if c = 92 then pass f (k + 1) t.tail
    else if c = 39 then (pSing t).bind (pass f (k + 1))
    else if c = 34 then (pass f 0 t).bind (pass f (k + 1))
    else if c = 40 then pass f (k + 2) t
    else if c = 41 then (if k = 0 then some t else pass f k t)
    else pass f (k + 1) t
/-- A piece of a word. -/
structure Pt where
  kind : Nat
  pos : Nat
  n : Nat
  quoted : Bool
  s : List UInt8
  deriving DecidableEq
structure Tk where
  kind : Nat
  pos : Nat
  parts : List Pt
  deriving DecidableEq
/-- An error and its place: 0 is a name, 1 a bracket, 2 a quote, 3 a token. -/
structure Er where
  code : Nat
  pos : Nat
  deriving DecidableEq
/-- Living text. -/
def liv : List UInt8 → List UInt8
  | [] => []
  | c :: t => if tEnd c || dolB (c :: t) then [] else c :: liv t
/-- A byte between double quotes, or a backslash and the one behind it; and how far it goes. -/
def dByte : List UInt8 → List UInt8 × Nat
  | [] => ([], 0)
  | c :: t => if c = 92 then (match t with
      | [] => ([92], 1)
      | d :: _ => if d = 36 ∨ d = 34 ∨ d = 92 then ([d], 2) else ([92, d], 2))
    else ([c], 1)
def dead : Nat → List UInt8 → List UInt8 × List UInt8
  | 0, l => ([], l)
  | _ + 1, [] => ([], [])
  | f + 1, c :: t => if c = 34 ∨ dolB (c :: t) = true then ([], c :: t) else
      ((dByte (c :: t)).1 ++ (dead f ((c :: t).drop (dByte (c :: t)).2)).1, (dead f ((c :: t).drop (dByte (c :: t)).2)).2)
def isNB (c : UInt8) : Bool := c != 125
/-- The variable of a name that stands there. -/
def varR (p : Nat) (nm u : List UInt8) : Except Er (Pt × List UInt8) := if nameB nm then .ok (⟨3, p, 0, false, nm⟩, u) else .error ⟨0, p⟩
/-- What stands behind a dollar; N is how many bytes there are in all. -/
def dollar (N : Nat) : List UInt8 → Except Er (Pt × List UInt8)
  | _ :: c :: t =>
    if c = 40 then (match pass (t.length + 2) 1 t with
      | none => .error ⟨1, N - (t.length + 2)⟩
      | some u => .ok (⟨4, N - (t.length + 2), 0, false, t.take (t.length - u.length - 1)⟩, u))
    else if c = 123 then (if (t.takeWhile isNB).length < t.length then varR (N - (t.length + 2)) (t.takeWhile isNB) (t.drop ((t.takeWhile isNB).length + 1)) else .error ⟨0, N - (t.length + 2)⟩)
    else if c = 42 then .ok (⟨3, N - (t.length + 2), 0, false, [42]⟩, t)
    else if c = 35 then .ok (⟨6, N - (t.length + 2), 0, false, []⟩, t)
    else if cnts c then .ok (⟨5, N - (t.length + 2), c.toNat - 48, false, []⟩, t)
    else varR (N - (t.length + 2)) (nrun (c :: t)) ((c :: t).drop (nrun (c :: t)).length)
  | _ => .error ⟨0, 0⟩
def quo (p : Pt) : Pt := ⟨p.kind, p.pos, p.n, true, p.s⟩
/-- One part between double quotes. -/
def quoted (N : Nat) (l : List UInt8) : Except Er (Pt × List UInt8) :=
  if dolB l then (match dollar N l with
    | .error e => .error e
    | .ok (p, u) => .ok (quo p, u))
  else .ok (⟨2, N - l.length, 0, false, (dead l.length l).1⟩, (dead l.length l).2)
/-- The parts between double quotes, behind the first one. -/
def dbl (N at_ : Nat) : Nat → List UInt8 → Except Er (List Pt × List UInt8)
  | 0, _ => .error ⟨2, at_⟩
  | _ + 1, [] => .error ⟨2, at_⟩
  | f + 1, c :: t => if c = 34 then .ok ([], t) else (match quoted N (c :: t) with
    | .error e => .error e
    | .ok (p, u) => (match dbl N at_ f u with
      | .error e => .error e
      | .ok (ps, v) => .ok (p :: ps, v)))
/-- The parts that begin here, with this byte. -/
def parts (N : Nat) (c : UInt8) (t : List UInt8) : Except Er (List Pt × List UInt8) :=
  if c = 92 then .ok ([⟨2, N - (t.length + 1), 0, false, match t with | [] => [92] | d :: _ => [d]⟩], t.tail)
  else if c = 39 then (match pSing t with
    | none => .error ⟨2, N - (t.length + 1)⟩
    | some u => .ok ([⟨2, N - (t.length + 1), 0, false, t.take (t.length - u.length - 1)⟩], u))
  else if c = 34 then (match dbl N (N - (t.length + 1)) (t.length + 1) (dead t.length t).2 with
    | .error e => .error e
    | .ok (ps, v) => .ok (⟨2, N - (t.length + 1), 0, false, (dead t.length t).1⟩ :: ps, v))
  else if dolB (c :: t) then (match dollar N (c :: t) with
    | .error e => .error e
    | .ok (p, u) => .ok ([p], u))
  else .ok ([⟨1, N - (t.length + 1), 0, false, liv (c :: t)⟩], (c :: t).drop (liv (c :: t)).length)
def word (N : Nat) : Nat → List UInt8 → Except Er (List Pt × List UInt8)
  | 0, l => .ok ([], l)
  | _ + 1, [] => .ok ([], [])
  | f + 1, c :: t => if wEnd c then .ok ([], c :: t) else (match parts N c t with
    | .error e => .error e
    | .ok (ps, u) => (match word N f u with
      | .error e => .error e
      | .ok (qs, v) => .ok (ps ++ qs, v)))
/-- How each kind of token is written. -/
def sgn : Nat → List UInt8
  | 1 => [10]
  | 2 => [59]
  | 3 => [59, 59]
  | 4 => [38, 38]
  | 5 => [124, 124]
  | 6 => [124]
  | 7 => [40]
  | 8 => [41]
  | 9 => [60]
  | 10 => [62]
  | 11 => [62, 62]
  | 12 => [60, 60, 60]
  | _ => []
/-- The longest of the first k signs that stands here. -/
def best : Nat → List UInt8 → Nat
  | 0, _ => 0
  | k + 1, l => if (sgn (best k l)).length < (sgn k).length ∧ (sgn k).isPrefixOf l = true then k else best k l
def blk (c : UInt8) : Bool := c == 32 || c == 9
def notNl (c : UInt8) : Bool := c != 10
/-- Behind spaces, tabs, a comment. -/
def over (l : List UInt8) : List UInt8 :=
  if (l.dropWhile blk).head? = some 35 then (l.dropWhile blk).dropWhile notNl else l.dropWhile blk
def tokenL (N : Nat) (m : List UInt8) : Except Er (Tk × List UInt8) :=
  if best 13 m ≠ 0 then .ok (⟨best 13 m, N - m.length, []⟩, m.drop (sgn (best 13 m)).length)
  else (match m with
    | [] => .ok (⟨0, N, []⟩, [])
    | c :: _ => if c = 38 then .error ⟨3, N - m.length⟩ else (match word N m.length m with
      | .error e => .error e
      | .ok (ps, u) => .ok (⟨13, N - m.length, ps⟩, u)))
/-- Tokens one behind the other, by any reader of one token. -/
def lexW (T : List UInt8 → Except Er (Tk × List UInt8)) : Nat → List UInt8 → Except Er (List Tk)
  | 0, _ => .ok []
  | f + 1, l => (match T l with
    | .error e => .error e
    | .ok (t, u) => if t.kind = 0 then .ok [t] else (match lexW T f u with
      | .error e => .error e
      | .ok ts => .ok (t :: ts)))
/-- A source's tokens. -/
def lexL (l : List UInt8) : Except Er (List Tk) := lexW (fun m => tokenL l.length (over m)) (l.length + 1) l
end Go.Proofs.YtnlbjgioleoihaaGreatDoor
