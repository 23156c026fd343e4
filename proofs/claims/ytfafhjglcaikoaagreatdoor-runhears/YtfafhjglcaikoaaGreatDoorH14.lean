/- What a program comes to, as far as it is followed here: plain. -/
import Derived.Shelf.Strings.OnBuilder
import Derived.Test.YtfafhjglcaikoaaGreatDoorProg
import Derived.Test.YtfafhjglcaikoaaGreatDoorH1
import Derived.Test.YtfafhjglcaikoaaGreatDoorH12
import Derived.Test.YtfafhjglcaikoaaGreatDoorH7
import Derived.Test.YtfafhjglcaikoaaGreatDoorH10
import Derived.Shelf.Strings.BuilderK
import Derived.Shelf.Small.Strs
import Derived.Lib.Strings
import Derived.Lib.TrimByte
import Derived.Laws.BitsAllLaws
import Derived.Deep.DeepCutAuto
import Derived.Deep.Light
import Derived.Deep.RegionHeld3
import Derived.Test.YtfafhjglcaikoaaGreatDoorH13
import Derived.Shelf.Strconv.Itoa3
import Derived.Shelf.LaysM
import Derived.Ground.NamesProg
import Derived.Lib.AppendIntMem
import Derived.Lib.ItoaLen
import Derived.Lib.IndexLaws
import Derived.BigQuiet
import Derived.Deep.QuietTactic
import Derived.Lib.Join
/-! DERIVED: THE SHELF's CONTRACTS AT THIS DUMP, IN PLAIN WORDS (tools/lay-plain.mjs out of 'YtfafhjglcaikoaaGreatDoorLShelf4.lean', which tools/lay-shelf.mjs wrote): THE SAME DECLARATIONS UNDER THE SAME NAMES: 'import', 'namespace', 'open', 'def', 'theorem' AND NOTHING ELSE: no command of the shelf's: FOR A HAND-IN. Each laying: the table of numbers ('.._ren') and one theorem, a field a fact of the dump's own or the kernel's comparison; each contract: ONE APPLICATION. -/
namespace Go.Proofs
open Go.Shelf
def Tryz.lays156_ren : Go.Shelf.Ren := ⟨fun | 156 => 204 | 165 => 236 | 166 => 237 | 169 => 238 | 240 => 274 | 241 => 275 | 276 => 294 | 277 => 295 | n => n, fun | 31 => 23 | 9 => 9 | 3 => 3 | 4 => 4 | 0 => 0 | 20 => 20 | 72 => 300 | 76 => 97 | 70 => 297 | 37 => 298 | 75 => 51 | 127 => 333 | 164 => 349 | 5 => 5 | 80 => 303 | n => n, fun | n => n⟩
theorem Tryz.lays156 : Go.Proofs.Lays.n156 Tryz.prog Tryz.lays156_ren := {
  mixed := by kernel_rfl
  f156 := Tryz.func204.trans (congrArg some (by kernel_rfl))
  f165 := Tryz.func236.trans (congrArg some (by kernel_rfl))
  f166 := Tryz.func237.trans (congrArg some (by kernel_rfl))
  f169 := Tryz.func238.trans (congrArg some (by kernel_rfl))
  f240 := Tryz.func274.trans (congrArg some (by kernel_rfl))
  f241 := Tryz.func275.trans (congrArg some (by kernel_rfl))
  f276 := Tryz.func294.trans (congrArg some (by kernel_rfl))
  f277 := Tryz.func295.trans (congrArg some (by kernel_rfl))
  t0 := Tryz.underlying0
  a0 := Tryz.isAgg0
  z0 := Tryz.sizeOf0
  v0 := Tryz.zeroValue0
  t3 := Tryz.underlying3
  a3 := Tryz.isAgg3
  z3 := Tryz.sizeOf3
  v3 := Tryz.zeroValue3
  t4 := Tryz.underlying4
  a4 := Tryz.isAgg4
  z4 := Tryz.sizeOf4
  v4 := Tryz.zeroValue4
  t9 := Tryz.underlying9
  a9 := Tryz.isAgg9
  z9 := Tryz.sizeOf9
  v9 := Tryz.zeroValue9
  t20 := Tryz.underlying20
  a20 := Tryz.isAgg20
  z20 := Tryz.sizeOf20
  v20 := Tryz.zeroValue20
  t31 := Tryz.underlying23
  a31 := Tryz.isAgg23
  z31 := Tryz.sizeOf23
  v31 := Tryz.zeroValue23
  t37 := Tryz.underlying298
  a37 := Tryz.isAgg298
  z37 := Tryz.sizeOf298
  v37 := Tryz.zeroValue298
  t70 := Tryz.underlying297
  a70 := Tryz.isAgg297
  z70 := Tryz.sizeOf297
  v70 := Tryz.zeroValue297
  t72 := Tryz.underlying300
  a72 := Tryz.isAgg300
  z72 := Tryz.sizeOf300
  v72 := Tryz.zeroValue300
  t75 := Tryz.underlying51
  a75 := Tryz.isAgg51
  z75 := Tryz.sizeOf51
  v75 := Tryz.zeroValue51
  t76 := Tryz.underlying97
  a76 := Tryz.isAgg97
  z76 := Tryz.sizeOf97
  v76 := Tryz.zeroValue97
  t127 := Tryz.underlying333
  a127 := Tryz.isAgg333
  z127 := Tryz.sizeOf333
  v127 := Tryz.zeroValue333
  t164 := Tryz.underlying349
  a164 := Tryz.isAgg349
  z164 := Tryz.sizeOf349
  v164 := Tryz.zeroValue349 }
theorem Tryz.Builder_Extra_156 : Builder.Extra Tryz.prog Tryz.lays156_ren := {
  sizeBuilder := by kernel_rfl
  liesBuilder := by kernel_rfl
  t5 := Tryz.underlying5
  a5 := Tryz.isAgg5
  z5 := Tryz.sizeOf5
  v5 := Tryz.zeroValue5
  infoByte := by kernel_rfl
  cellsByte := by kernel_rfl
  sizeByte := by kernel_rfl
  neB5 := by decide }
open Go.RowKit in
/-- No element: the empty string; the world is as it was. (Whatever the slice's address and capacity: a nil slice too.) (LAID: no walk: one application.) -/
theorem Tryz.strings_Join_none (a : Option Addr) (c : Nat) (sep : ByteArray) (w : World) :
    Calls Tryz.prog 204 #[.slice a 0 c, .string sep] w fun e w' => e = .returned (.string ⟨#[]⟩) ∧ w' = w := Any.strings_Join_none Tryz.lays156 Tryz.Builder_Extra_156 a c sep w
open Go.RowKit in
/-- strings.Join: "Join concatenates the elements of its first argument to create a single string. The separator string sep is placed between elements in the resulting string.": HOWEVER MANY ELEMENTS. Below the heap's end the world is as it was. (LAID: no walk: one application.) -/
theorem Tryz.strings_Join (bk o c : Nat) (xs : List ByteArray) (sep : ByteArray) (w : World) (hcells : ∀ (j : Nat) x, xs[j]? = some x → w.cell? ⟨bk, o + j, none⟩ = some (.string x)) (hbk : bk < w.heap.size) (hN : xs.length ≤ 140737488355328) (hcap : xs.length ≤ c) (hlen : (Lib.join (xs.map (·.data.toList)) sep.data.toList).length ≤ 140737488355328) :
    Calls Tryz.prog 204 #[.slice (some ⟨bk, o, none⟩) xs.length c, .string sep] w fun e w' => e = .returned (.string ⟨(Lib.join (xs.map (·.data.toList)) sep.data.toList).toArray⟩) ∧ Below w.heap.size w w' := Any.strings_Join Tryz.lays156 Tryz.Builder_Extra_156 bk o c xs sep w hcells hbk hN hcap hlen
end Go.Proofs
/-! Slices of texts, and what a command of the shell's own answers. -/
namespace Go.Proofs.YtfafhjglcaikoaaGreatDoor
open Go.RowKit Go.Shelf
attribute [local go_sem] Oper.semAt_some

theorem str_eq (s : ByteArray) : Value.string s = str s.data.toList := by cases s; simp [str]
theorem Tx.oneB {W : World} {v : Value} {a : List UInt8} (h : Tx W v [a]) : ∃ g o cap, v = .slice (some ⟨g, o, none⟩) 1 cap ∧ 1 ≤ cap ∧ g < W.heap.size ∧ W.cell? ⟨g, o, none⟩ = some (str a) := by
  obtain ⟨g, o, cap, h1, h2, h3, h4⟩ := h.inRow (by simp)
  exact ⟨g, o, cap, h1, h2, h3, h4 0 a rfl⟩
theorem Tx.two {W : World} {v : Value} {a b : List UInt8} (h : Tx W v [a, b]) : ∃ g o cap, v = .slice (some ⟨g, o, none⟩) 2 cap ∧ 2 ≤ cap ∧ g < W.heap.size ∧ W.cell? ⟨g, o, none⟩ = some (str a) ∧ W.cell? ⟨g, o + 1, none⟩ = some (str b) := by
  obtain ⟨g, o, cap, h1, h2, h3, h4⟩ := h.inRow (by simp)
  exact ⟨g, o, cap, h1, h2, h3, h4 0 a rfl, h4 1 b rfl⟩
/-! ### the plain answers -/
def lineL (l : List UInt8) : List UInt8 := l.takeWhile (· != 10)
def restL (l : List UInt8) : List UInt8 := (l.dropWhile (· != 10)).drop 1
theorem line_none : ∀ l : List UInt8, Lib.indexByte l 10 = -1 → lineL l = l ∧ restL l = []
  | [], _ => ⟨rfl, rfl⟩
  | b :: l, h => by
    unfold Lib.indexByte at h
    by_cases hb : (b == 10) = true
    · simp [hb] at h
    · have hb' : (b == 10) = false := by simpa using hb
      by_cases hi : Lib.indexByte l 10 = -1
      · obtain ⟨h1, h2⟩ := line_none l hi
        have hn : (b != 10) = true := by simp [bne, hb']
        exact ⟨by unfold lineL at h1 ⊢; rw [List.takeWhile_cons, if_pos hn, h1], by unfold restL at h2 ⊢; rw [List.dropWhile_cons, if_pos hn, h2]⟩
      · exfalso
        have hi' : (Lib.indexByte l 10 == -1) = false := by simpa using hi
        have := Lib.indexByte_ge l 10
        simp [hb', hi'] at h
        omega
theorem line_some : ∀ (l : List UInt8) (k : Nat), Lib.indexByte l 10 = k → lineL l = l.take k ∧ restL l = l.drop (k + 1) ∧ k < l.length
  | [], k, h => by unfold Lib.indexByte at h; omega
  | b :: l, k, h => by
    unfold Lib.indexByte at h
    by_cases hb : (b == 10) = true
    · simp [hb] at h
      have hk : k = 0 := by omega
      subst hk
      have hn : ¬ ((b != 10) = true) := by simp [bne, hb]
      exact ⟨by unfold lineL; rw [List.takeWhile_cons, if_neg hn]; rfl, by unfold restL; rw [List.dropWhile_cons, if_neg hn], by simp⟩
    · have hb' : (b == 10) = false := by simpa using hb
      have hn : (b != 10) = true := by simp [bne, hb']
      by_cases hi : (Lib.indexByte l 10 == -1) = true
      · simp [hb', hi] at h
      · have hi' : (Lib.indexByte l 10 == -1) = false := by simpa using hi
        have hge := Lib.indexByte_ge l 10
        simp [hb', hi'] at h
        have hne : Lib.indexByte l 10 ≠ -1 := by simpa using hi
        obtain ⟨j, hj⟩ : ∃ j : Nat, Lib.indexByte l 10 = j := ⟨(Lib.indexByte l 10).toNat, by omega⟩
        obtain ⟨h1, h2, h3⟩ := line_some l j hj
        have hk : k = j + 1 := by omega
        subst hk
        exact ⟨by unfold lineL at h1 ⊢; rw [List.takeWhile_cons, if_pos hn, h1]; rfl, by unfold restL at h2 ⊢; rw [List.dropWhile_cons, if_pos hn, h2]; rfl, by simp; omega⟩
/-- What a command answers. -/
structure Oc where
  out : List UInt8
  rest : List UInt8
  status : Int
  name : List UInt8
  value : List UInt8
  fin : Bool
abbrev ocV (o : Oc) : Value := .agg #[str o.out, str o.rest, .int .i64 o.status, str o.name, str o.value, .bool o.fin]
def stB (b : Bool) : Int := if b then 0 else 1
def numsR : List (List UInt8) → Int × Int × Bool
  | [a, b] => (((T.parseV a).getD 0 : Nat), ((T.parseV b).getD 0 : Nat), (T.parseV a).isSome && (T.parseV b).isSome)
  | _ => (0, 0, false)
def eqR : List (List UInt8) → Bool
  | [a, b] => a == b
  | _ => false
def endR : List (List UInt8) → Int
  | [] => 0
  | a :: _ => match T.parseV a with
    | some n => if n ≤ 255 then n else 0
    | none => 0
def readR (inp : List UInt8) : List (List UInt8) → Oc
  | [a] => if T.nameB a && !inp.isEmpty then ⟨[], restL inp, 0, a, lineL inp, false⟩ else ⟨[], inp, 1, [], [], false⟩
  | _ => ⟨[], inp, 1, [], [], false⟩
end Go.Proofs.YtfafhjglcaikoaaGreatDoor
/-! Lists made flat, and split again: plain facts. -/
namespace Go.Proofs.YtfafhjglcaikoaaGreatDoor

/-- How many bytes, with a space ahead of each. -/
def flatSum (l : List (List UInt8)) : Nat := (l.map fun s => 1 + s.length).sum
theorem flatSum_take (l : List (List UInt8)) (j : Nat) (s : List UInt8) (h : l[j]? = some s) : flatSum (l.take (j + 1)) = flatSum (l.take j) + (1 + s.length) := by
  unfold flatSum
  rw [List.take_add_one, h]
  simp
theorem flatSum_le (l : List (List UInt8)) (k : Nat) : flatSum (l.take k) ≤ flatSum l := by
  conv => rhs; rw [← List.take_append_drop k l]
  unfold flatSum
  rw [List.map_append, List.sum_append]
  omega
theorem flatSum_length (l : List (List UInt8)) : l.length ≤ flatSum l := by
  induction l with
  | nil => simp
  | cons s l ih =>
    unfold flatSum at *
    simp only [List.map_cons, List.sum_cons, List.length_cons]
    omega
theorem join_length : ∀ (l : List (List UInt8)), (Lib.join l [32]).length ≤ flatSum l
  | [] => by simp [Lib.join]
  | [s] => by simp [Lib.join, flatSum]
  | s :: t :: l => by
    have ih := join_length (t :: l)
    unfold Lib.join at *
    rw [List.intercalate_cons_cons]
    unfold flatSum at *
    simp only [List.map_cons, List.sum_cons, List.length_append, List.length_cons, List.length_nil] at *
    omega
theorem join_length1 (s : List UInt8) (l : List (List UInt8)) : (Lib.join (s :: l) [32]).length + 1 = flatSum (s :: l) := by
  induction l generalizing s with
  | nil => simp [Lib.join, flatSum]; omega
  | cons t l ih =>
    have h := ih t
    unfold Lib.join at *
    rw [List.intercalate_cons_cons]
    unfold flatSum at *
    simp only [List.map_cons, List.sum_cons, List.length_append, List.length_cons, List.length_nil] at *
    omega
/-- One item, or too big. -/
def flatB (l : List (List UInt8)) : Option (List (List UInt8)) := if flatSum l ≤ 2001 then some [Lib.join l [32]] else none
theorem flatB_fits (l r : List (List UInt8)) (h : flatB l = some r) : r = [Lib.join l [32]] ∧ fitsB r = true := by
  unfold flatB at h
  split at h
  · next hl =>
    cases h
    refine ⟨rfl, ?_⟩
    rw [fitsB_iff]
    refine ⟨by simp, fun s hs => ?_⟩
    simp at hs
    subst hs
    cases l with
    | nil => simp [Lib.join]
    | cons s l =>
      have := join_length1 s l
      omega
  · cases h
end Go.Proofs.YtfafhjglcaikoaaGreatDoor
namespace Go.Proofs.YtfafhjglcaikoaaGreatDoor
open Go.RowKit

/-- How a part of a run ends. -/
inductive Xr where
  | ok
  | fuel
  | deep
  | big
  | fin
  deriving DecidableEq
def xrV (ea : Nat → Addr) : Xr → Value
  | .ok => .nilIface
  | .fuel => errV (ea 2)
  | .deep => errV (ea 0)
  | .big => errV (ea 1)
  | .fin => errV (ea 7)
abbrev Cr := Sh × Int × Xr
abbrev Wr := Sh × List Txt × Xr

/-! ### children -/
def kidsF : Nat → List Nd → Option (List (List Nd))
  | _, [] => some []
  | 0, _ :: _ => none
  | n + 1, x :: r => if 1 ≤ x.size ∧ x.size ≤ (r.length : Int) + 1 then (kidsF n ((x :: r).drop x.size.toNat)).map (fun t => (x :: r).take x.size.toNat :: t) else none
def kidsP : List Nd → Option (List (List Nd))
  | [] => none
  | x :: r => if 0 ≤ x.k ∧ x.k ≤ 100000 ∧ r.length ≤ 100000 then kidsF r.length r else none

/-! ### small things -/
/-- Nothing in it is too great. -/
def okB (s : Sh) : Bool := decide (s.F.length < 100000) && decide (s.H.length < 100000) && decide (s.D.length < 100000) && decide (s.R.length < 100000) && decide (s.E.length < 1000000) &&
  s.D.all (fun p => decide (p.1.length < 100000) && decide (p.2.length < 100000)) && s.R.all (fun r => decide (r.args.length < 100000) && decide (r.out.length < 100000)) && decide (s.hd.length < 100000) && decide (s.fl.length < 100000) &&
  decide (s.st ≤ 1000000) && decide (s.ms ≤ 1000000) && decide (s.dp ≤ 1000000) && decide (s.md ≤ 1000000) && (match s.ct with | none => true | some t => decide (t.length ≤ 2000))
def stepP (s : Sh) : Sh × Xr := if s.st = s.ms then (s, .fuel) else ({ s with st := s.st + 1 }, .ok)
def sayP (s : Sh) (d : Txt) : Sh × Xr :=
  match s.ct with
  | none => ({ s with D := writeF s.D s.fl d, E := s.E ++ writeE s.D s.fl d }, if writeB s.D s.fl d then .ok else .big)
  | some t => if (2000 : Int) - t.length < d.length then (s, .big) else ({ s with ct := some (t ++ d) }, .ok)
/-- The builtins that are followed: none: another one; some none: it is none of them. -/
def doP (nm hd : Txt) (l : List Txt) : Option (Option Oc) :=
  if nm = [101, 99, 104, 111] then some (some ⟨Lib.join l [32] ++ [10], hd, 0, [], [], false⟩)
  else if nm = [112, 117, 116] then some (some ⟨Lib.join l [32], hd, 0, [], [], false⟩)
  else if nm = [99, 97, 116] then some (some ⟨hd, [], 0, [], [], false⟩)
  else if nm = [116, 114, 117, 101] then some (some ⟨[], hd, 0, [], [], false⟩)
  else if nm = [102, 97, 108, 115, 101] then some (some ⟨[], hd, 1, [], [], false⟩)
  else if nm = [114, 101, 97, 100] then some (some (readR hd l))
  else if nm = [101, 120, 105, 116] then some (some ⟨[], hd, endR l, [], [], true⟩)
  else if nm = [101, 113] then some (some ⟨[], hd, stB (eqR l), [], [], false⟩)
  else if nm = [97, 100, 100] ∨ nm = [108, 101, 115, 115] ∨ nm = [108, 105, 107, 101] then none
  else some none
def followP (s : Sh) (o : Oc) : Cr :=
  match sayP s o.out with
  | (s1, .ok) =>
    if o.name ≠ [] then
      if 2000 < o.value.length then ({ s1 with hd := o.rest }, 0, .big)
      else if o.fin then ({ s1 with hd := o.rest, F := putM s1.F o.name [o.value], en := o.status }, 0, .fin) else ({ s1 with hd := o.rest, F := putM s1.F o.name [o.value] }, o.status, .ok)
    else if o.fin then ({ s1 with hd := o.rest, en := o.status }, 0, .fin) else ({ s1 with hd := o.rest }, o.status, .ok)
  | (s1, e) => (s1, 0, e)
def execP (s : Sh) (nm : Txt) (l : List Txt) : Cr :=
  let o := rowOf s.R nm l
  let r := sayP { s with E := s.E ++ [⟨1, statOf o, nm, heardOf o s.hd, l⟩], hd := if readsB o then [] else s.hd } (outOf o s.hd)
  match r with
  | (s1, .ok) => (s1, statOf o, .ok)
  | (s1, e) => (s1, 0, e)

/-! ### one round of the interpreter, over what is below -/
section
variable (f : List Nd → Sh → Option Cr) (g : List Nd → Sh → Option Wr)
def seqS : List (List Nd) → Sh → Int → Option Cr
  | [], s, last => some (s, last, .ok)
  | l :: r, s, _ => match f l s with
    | none => none
    | some (s1, st, .ok) => seqS r s1 st
    | some (s1, _, e) => some (s1, 0, e)
def catS (most : Nat) : List (List Nd) → Sh → List Txt → Option Wr
  | [], s, m => some (s, m, .ok)
  | w :: r, s, m => match g w s with
    | none => none
    | some (s1, l, .ok) => if fitsB m && fitsB l then (if fitsB (m ++ l) then (if most < (m ++ l).length then some (s1, [], .big) else catS most r s1 (m ++ l)) else some (s1, [], .big)) else none
    | some (s1, _, e) => some (s1, [], e)
def joinS : List (List Nd) → Sh → Option (List Txt) → Option Wr
  | [], s, m => m.map fun l => (s, l, .ok)
  | w :: r, s, m => match g w s with
    | none => none
    | some (s1, l, .ok) => if fitsB l && (match m with | none => true | some k => fitsB k) then (match joinB (m.toList ++ [l]) with
      | some k => joinS r s1 (some k)
      | none => some (s1, [], .big)) else none
    | some (s1, _, e) => some (s1, [], e)
/-- Something one deeper. -/
def deepS (s : Sh) (k : Sh → Option Cr) : Option Cr :=
  if s.dp = s.md then some (s, 0, .deep) else
  match k { s with dp := s.dp + 1 } with
  | none => none
  | some (s1, st, .ok) => if 1 ≤ s1.dp ∧ s1.dp ≤ 1000000 then some ({ s1 with dp := s1.dp - 1 }, st, .ok) else none
  | some (s1, _, e) => some (s1, 0, e)
/-- A command that says elsewhere; what was caught is the third. -/
def sayingS (ct : Option Txt) (fl : Txt) (l : List Nd) (s : Sh) : Option (Cr × Option Txt) :=
  match f l { s with ct := ct, fl := fl } with
  | none => none
  | some (s1, st, .ok) => some (({ s1 with ct := s.ct, fl := s.fl }, st, .ok), s1.ct)
  | some (s1, _, e) => some ((s1, 0, e), none)
def catchS (l : List Nd) (s : Sh) : Option (Sh × Txt × Xr) :=
  match sayingS f (some []) [] l s with
  | none => none
  | some ((s1, _, .ok), some t) => some (s1, t, .ok)
  | some ((_, _, .ok), none) => none
  | some ((s1, _, e), _) => some (s1, [], e)
def hearS (hd : Txt) (l : List Nd) (s : Sh) : Option Cr :=
  match f l { s with hd := hd } with
  | none => none
  | some (s1, st, .ok) => some ({ s1 with hd := s.hd }, st, .ok)
  | some (s1, _, e) => some (s1, 0, e)
def framedS (l : List Nd) (a : List Txt) (s : Sh) : Option Cr :=
  deepS s fun s0 => match f l { s0 with F := putM s0.F star a } with
    | none => none
    | some (s1, st, .ok) => if fitsB (getM s0.F star []) && okB s1 then some ({ s1 with F := putM s1.F star (getM s0.F star []) }, st, .ok) else none
    | some (s1, _, e) => some (s1, 0, e)
def callS (ks : List (List Nd)) (s : Sh) : Option Cr :=
  match catS g 100 ks s [] with
  | none => none
  | some (s1, [], .ok) => some (s1, 0, .ok)
  | some (s1, nm :: l, .ok) =>
    if okB s1 then
      if hasM s1.H nm then framedS f (getM s1.H nm []) l s1
      else match doP nm s1.hd l with
        | none => none
        | some (some o) => some (followP s1 o)
        | some none => some (execP s1 nm l)
    else none
  | some (s1, _, e) => some (s1, 0, e)
def flatS (w : List Nd) (s : Sh) : Option (Sh × Txt × Xr) :=
  match g w s with
  | none => none
  | some (s1, l, .ok) => if fitsB l then (match flatB l with
    | some _ => some (s1, Lib.join l [32], .ok)
    | none => some (s1, [], .big)) else none
  | some (s1, _, e) => some (s1, [], e)
def setS9 (nm : Txt) (w : List Nd) (s : Sh) : Option Cr :=
  match g w s with
  | none => none
  | some (s1, l, .ok) => if fitsB l && okB s1 then some ({ s1 with F := putM s1.F nm l }, 0, .ok) else none
  | some (s1, _, e) => some (s1, 0, e)
def whileS (a b : List Nd) : Nat → Sh → Int → Option Cr
  | 0, _, _ => none
  | n + 1, s, last => if okB s then (match stepP s with
    | (s0, .ok) => (match f a s0 with
      | none => none
      | some (s1, st, .ok) => if st = 0 then (match f b s1 with
          | none => none
          | some (s2, st2, .ok) => whileS a b n s2 st2
          | some (s2, _, e) => some (s2, 0, e)) else some (s1, last, .ok)
      | some (s1, _, e) => some (s1, 0, e))
    | (s0, e) => some (s0, 0, e)) else none
def eachS (nm : Txt) (b : List Nd) : List Txt → Sh → Int → Option Cr
  | [], s, last => some (s, last, .ok)
  | x :: r, s, _ => if okB s then (match stepP s with
    | (s0, .ok) => (match f b { s0 with F := putM s0.F nm [x] } with
      | none => none
      | some (s1, st, .ok) => eachS nm b r s1 st
      | some (s1, _, e) => some (s1, 0, e))
    | (s0, e) => some (s0, 0, e)) else none
def forS (nm : Txt) (w b : List Nd) (s : Sh) : Option Cr :=
  match g w s with
  | none => none
  | some (s1, l, .ok) => if fitsB l then eachS f nm b l s1 0 else none
  | some (s1, _, e) => some (s1, 0, e)
def markP (k n : Int) (s : Sh) : Sh := { s with E := s.E ++ marked k n }
/-- The commands of a pipe behind the first, but for the last. -/
def thruS : List (List Nd) → Sh → Txt → Option (Sh × Txt × Xr)
  | [], s, said => some (s, said, .ok)
  | l :: r, s, said => match catchS f l { s with hd := said } with
    | none => none
    | some (s1, t, .ok) => thruS r s1 t
    | some (s1, _, e) => some (s1, [], e)
def thruAll (ks : List (List Nd)) (s : Sh) : Option Cr :=
  match ks with
  | [] => none
  | k0 :: r => match catchS f k0 s with
    | none => none
    | some (s1, t, .ok) => (match thruS f r.dropLast s1 t with
      | none => none
      | some (s2, u, .ok) => (match r.getLast? with
        | none => none
        | some z => hearS f u z { s2 with hd := s1.hd })
      | some (s2, _, e) => some (s2, 0, e))
    | some (s1, _, e) => some (s1, 0, e)
def pipeS (ks : List (List Nd)) (s : Sh) : Option Cr :=
  if okB s then (match thruAll f ks (markP 4 (ks.length : Nat) s) with
    | none => none
    | some (s1, st, .ok) => if okB s1 then some (markP 6 (ks.length : Nat) s1, st, .ok) else none
    | some (s1, _, e) => some (s1, 0, e)) else none
def subS (c : List Nd) (s : Sh) : Option Wr :=
  match stepP s with
  | (s0, .ok) => if s0.dp = s0.md then some (s0, [], .deep) else
    (match catchS f c { s0 with dp := s0.dp + 1 } with
    | none => none
    | some (s1, t, .ok) => if 1 ≤ s1.dp ∧ s1.dp ≤ 1000000 ∧ t.length < 100000 then some ({ s1 with dp := s1.dp - 1 }, [Lib.trimRightB t 10], .ok) else none
    | some (s1, _, e) => some (s1, [], e))
  | (s0, e) => some (s0, [], e)
def openedS (fl : Txt) (m : Int) (c : List Nd) (s : Sh) : Option Cr :=
  if openB s.D fl m then
    if m = 1 then hearS f (openD s.D fl m) c { s with D := openF s.D fl m, E := s.E ++ openE s.D fl m }
    else (sayingS f none fl c { s with D := openF s.D fl m, E := s.E ++ openE s.D fl m }).map Prod.fst
  else some ({ s with D := openF s.D fl m, E := s.E ++ openE s.D fl m }, 1, .ok)
def redirS (m : Int) (w c : List Nd) (s : Sh) : Option Cr :=
  match flatS g w s with
  | none => none
  | some (s1, t, .ok) => if t = [] then some (s1, 1, .ok) else if okB s1 then
    (match openedS f t m c (markP 5 m s1) with
    | none => none
    | some (s2, st, .ok) => if okB s2 then some (markP 6 m s2, st, .ok) else none
    | some (s2, _, e) => some (s2, 0, e)) else none
  | some (s1, _, e) => some (s1, 0, e)
def hereS (w c : List Nd) (s : Sh) : Option Cr :=
  match flatS g w s with
  | none => none
  | some (s1, t, .ok) => if okB s1 then
    (match hearS f t c (markP 5 1 s1) with
    | none => none
    | some (s2, st, .ok) => if okB s2 then some (markP 6 1 s2, st, .ok) else none
    | some (s2, _, e) => some (s2, 0, e)) else none
  | some (s1, _, e) => some (s1, 0, e)
/-- A word, in one round. -/
def wordS (l : List Nd) (s : Sh) : Option Wr :=
  match l with
  | [] => none
  | x :: _ =>
    if x.kind = 1 then some (s, [x.s], .ok)
    else if x.kind = 2 then (if okB s && decide (x.s.length < 100000) then some (s, getM s.F x.s [], .ok) else none)
    else match kidsP l with
    | none => none
    | some ks =>
      if x.kind = 3 then catS g 100 ks s []
      else if x.kind = 4 then joinS g ks s none
      else if x.kind = 12 then (match ks with
        | [] => none
        | k0 :: _ => if okB s then subS f k0 s else none)
      else if x.kind = 9 then (match ks with
        | [] => none
        | k0 :: _ => (match flatS g k0 s with
          | none => none
          | some (s1, t, .ok) => some (s1, [t], .ok)
          | some (s1, _, e) => some (s1, [], e)))
      else none
def stepsB (k : Int) : Bool := !(k == 20 || k == 23 || k == 24 || k == 25 || k == 26 || k == 27 || k == 28 || k == 29)
/-- A command behind its step. -/
def bodyS (n : Nat) (x : Nd) (ks : List (List Nd)) (s : Sh) : Option Cr :=
  if x.kind = 21 then callS f g ks s
  else if x.kind = 23 then seqS f ks s 0
  else if x.kind = 32 then pipeS f ks s
  else if x.kind = 20 then some (s, 0, .ok)
  else match ks with
  | [] => none
  | [k0] => if x.kind = 22 then setS9 g x.s k0 s else if x.kind = 31 then some ({ s with H := putM s.H x.s k0 }, 0, .ok) else none
  | k0 :: k1 :: _ => if x.kind = 28 then whileS f k0 k1 n s 0 else if x.kind = 29 then forS f g x.s k0 k1 s else if x.kind = 33 then redirS f g x.n k0 k1 s else if x.kind = 34 then hereS f g k0 k1 s else none
/-- A command, in one round. -/
def cmdS (n : Nat) (l : List Nd) (s : Sh) : Option Cr :=
  match l with
  | [] => none
  | x :: _ => if okB s && decide (x.s.length < 100000) then
      (match kidsP l with
      | none => none
      | some ks => if stepsB x.kind then (match stepP s with
          | (s0, .ok) => bodyS f g n x ks s0
          | (s0, e) => some (s0, 0, e)) else bodyS f g n x ks s) else none
end
/-- The interpreter, with so much fuel. -/
def ev : Nat → (List Nd → Sh → Option Cr) × (List Nd → Sh → Option Wr)
  | 0 => (fun _ _ => none, fun _ _ => none)
  | n + 1 => (cmdS (ev n).1 (ev n).2 n, wordS (ev n).1 (ev n).2)
end Go.Proofs.YtfafhjglcaikoaaGreatDoor
