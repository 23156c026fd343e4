/- What a run asks of its store and its kernel; a command of the world; what a builtin says is done. -/
import Derived.Test.YtfafhjglcaikoaaGreatDoorG12
import Derived.Test.YtfafhjglcaikoaaGreatDoorG20
import Derived.BigQuiet
import Derived.Deep.RegionHeld3
import Derived.Test.YtfafhjglcaikoaaGreatDoorG3
import Derived.Test.YtfafhjglcaikoaaGreatDoorG6
/-! What a program comes to, as far as it is followed here: plain. -/
namespace Go.Proofs.YtfafhjglcaikoaaGreatDoor
open Go.RowKit

/-- How a part of a run ends. -/
inductive Xr where
  | ok
  | fuel
  | deep
  | big
  | fin
  deriving DecidableEq
def xrV (ea : Nat → Addr) : Xr → Value
  | .ok => .nilIface
  | .fuel => errV (ea 2)
  | .deep => errV (ea 0)
  | .big => errV (ea 1)
  | .fin => errV (ea 7)
abbrev Cr := Sh × Int × Xr
abbrev Wr := Sh × List Txt × Xr

/-! ### children -/
def kidsF : Nat → List Nd → Option (List (List Nd))
  | _, [] => some []
  | 0, _ :: _ => none
  | n + 1, x :: r => if 1 ≤ x.size ∧ x.size ≤ (r.length : Int) + 1 then (kidsF n ((x :: r).drop x.size.toNat)).map (fun t => (x :: r).take x.size.toNat :: t) else none
def kidsP : List Nd → Option (List (List Nd))
  | [] => none
  | x :: r => if 0 ≤ x.k ∧ x.k ≤ 100000 ∧ r.length ≤ 100000 then kidsF r.length r else none

/-! ### small things -/
/-- Nothing in it is too great. -/
def okB (s : Sh) : Bool := decide (s.F.length < 100000) && decide (s.H.length < 100000) && decide (s.D.length < 100000) && decide (s.R.length < 100000) && decide (s.E.length < 1000000) &&
  s.D.all (fun p => decide (p.1.length < 100000) && decide (p.2.length < 100000)) && s.R.all (fun r => decide (r.args.length < 100000) && decide (r.out.length < 100000)) && decide (s.hd.length < 100000) && decide (s.fl.length < 100000) &&
  decide (s.st ≤ 1000000) && decide (s.ms ≤ 1000000) && decide (s.dp ≤ 1000000) && decide (s.md ≤ 1000000) && (match s.ct with | none => true | some t => decide (t.length ≤ 2000))
def stepP (s : Sh) : Sh × Xr := if s.st = s.ms then (s, .fuel) else ({ s with st := s.st + 1 }, .ok)
def sayP (s : Sh) (d : Txt) : Sh × Xr :=
  match s.ct with
  | none => ({ s with D := writeF s.D s.fl d, E := s.E ++ writeE s.D s.fl d }, if writeB s.D s.fl d then .ok else .big)
  | some t => if (2000 : Int) - t.length < d.length then (s, .big) else ({ s with ct := some (t ++ d) }, .ok)
/-- The builtins that are followed: none: another one; some none: it is none of them. -/
def doP (nm hd : Txt) (l : List Txt) : Option (Option Oc) :=
  if nm = [101, 99, 104, 111] then some (some ⟨Lib.join l [32] ++ [10], hd, 0, [], [], false⟩)
  else if nm = [112, 117, 116] then some (some ⟨Lib.join l [32], hd, 0, [], [], false⟩)
  else if nm = [99, 97, 116] then some (some ⟨hd, [], 0, [], [], false⟩)
  else if nm = [116, 114, 117, 101] then some (some ⟨[], hd, 0, [], [], false⟩)
  else if nm = [102, 97, 108, 115, 101] then some (some ⟨[], hd, 1, [], [], false⟩)
  else if nm = [114, 101, 97, 100] then some (some (readR hd l))
  else if nm = [101, 120, 105, 116] then some (some ⟨[], hd, endR l, [], [], true⟩)
  else if nm = [101, 113] then some (some ⟨[], hd, stB (eqR l), [], [], false⟩)
  else if nm = [97, 100, 100] ∨ nm = [108, 101, 115, 115] ∨ nm = [108, 105, 107, 101] then none
  else some none
def followP (s : Sh) (o : Oc) : Cr :=
  match sayP s o.out with
  | (s1, .ok) =>
    if o.name ≠ [] then
      if 2000 < o.value.length then ({ s1 with hd := o.rest }, 0, .big)
      else if o.fin then ({ s1 with hd := o.rest, F := putM s1.F o.name [o.value], en := o.status }, 0, .fin) else ({ s1 with hd := o.rest, F := putM s1.F o.name [o.value] }, o.status, .ok)
    else if o.fin then ({ s1 with hd := o.rest, en := o.status }, 0, .fin) else ({ s1 with hd := o.rest }, o.status, .ok)
  | (s1, e) => (s1, 0, e)
def execP (s : Sh) (nm : Txt) (l : List Txt) : Cr :=
  let o := rowOf s.R nm l
  let r := sayP { s with E := s.E ++ [⟨1, statOf o, nm, heardOf o s.hd, l⟩], hd := if readsB o then [] else s.hd } (outOf o s.hd)
  match r with
  | (s1, .ok) => (s1, statOf o, .ok)
  | (s1, e) => (s1, 0, e)

/-! ### one round of the interpreter, over what is below -/
section
variable (f : List Nd → Sh → Option Cr) (g : List Nd → Sh → Option Wr)
def seqS : List (List Nd) → Sh → Int → Option Cr
  | [], s, last => some (s, last, .ok)
  | l :: r, s, _ => match f l s with
    | none => none
    | some (s1, st, .ok) => seqS r s1 st
    | some (s1, _, e) => some (s1, 0, e)
def catS (most : Nat) : List (List Nd) → Sh → List Txt → Option Wr
  | [], s, m => some (s, m, .ok)
  | w :: r, s, m => match g w s with
    | none => none
    | some (s1, l, .ok) => if fitsB m && fitsB l then (if fitsB (m ++ l) then (if most < (m ++ l).length then some (s1, [], .big) else catS most r s1 (m ++ l)) else some (s1, [], .big)) else none
    | some (s1, _, e) => some (s1, [], e)
def joinS : List (List Nd) → Sh → Option (List Txt) → Option Wr
  | [], s, m => m.map fun l => (s, l, .ok)
  | w :: r, s, m => match g w s with
    | none => none
    | some (s1, l, .ok) => if fitsB l && (match m with | none => true | some k => fitsB k) then (match joinB (m.toList ++ [l]) with
      | some k => joinS r s1 (some k)
      | none => some (s1, [], .big)) else none
    | some (s1, _, e) => some (s1, [], e)
/-- Something one deeper. -/
def deepS (s : Sh) (k : Sh → Option Cr) : Option Cr :=
  if s.dp = s.md then some (s, 0, .deep) else
  match k { s with dp := s.dp + 1 } with
  | none => none
  | some (s1, st, .ok) => if 1 ≤ s1.dp ∧ s1.dp ≤ 1000000 then some ({ s1 with dp := s1.dp - 1 }, st, .ok) else none
  | some (s1, _, e) => some (s1, 0, e)
/-- A command that says elsewhere; what was caught is the third. -/
def sayingS (ct : Option Txt) (fl : Txt) (l : List Nd) (s : Sh) : Option (Cr × Option Txt) :=
  match f l { s with ct := ct, fl := fl } with
  | none => none
  | some (s1, st, .ok) => some (({ s1 with ct := s.ct, fl := s.fl }, st, .ok), s1.ct)
  | some (s1, _, e) => some ((s1, 0, e), none)
def catchS (l : List Nd) (s : Sh) : Option (Sh × Txt × Xr) :=
  match sayingS f (some []) [] l s with
  | none => none
  | some ((s1, _, .ok), some t) => some (s1, t, .ok)
  | some ((_, _, .ok), none) => none
  | some ((s1, _, e), _) => some (s1, [], e)
def hearS (hd : Txt) (l : List Nd) (s : Sh) : Option Cr :=
  match f l { s with hd := hd } with
  | none => none
  | some (s1, st, .ok) => some ({ s1 with hd := s.hd }, st, .ok)
  | some (s1, _, e) => some (s1, 0, e)
def framedS (l : List Nd) (a : List Txt) (s : Sh) : Option Cr :=
  deepS s fun s0 => match f l { s0 with F := putM s0.F star a } with
    | none => none
    | some (s1, st, .ok) => if fitsB (getM s0.F star []) && okB s1 then some ({ s1 with F := putM s1.F star (getM s0.F star []) }, st, .ok) else none
    | some (s1, _, e) => some (s1, 0, e)
def callS (ks : List (List Nd)) (s : Sh) : Option Cr :=
  match catS g 100 ks s [] with
  | none => none
  | some (s1, [], .ok) => some (s1, 0, .ok)
  | some (s1, nm :: l, .ok) =>
    if okB s1 then
      if hasM s1.H nm then framedS f (getM s1.H nm []) l s1
      else match doP nm s1.hd l with
        | none => none
        | some (some o) => some (followP s1 o)
        | some none => some (execP s1 nm l)
    else none
  | some (s1, _, e) => some (s1, 0, e)
def flatS (w : List Nd) (s : Sh) : Option (Sh × Txt × Xr) :=
  match g w s with
  | none => none
  | some (s1, l, .ok) => if fitsB l then (match flatB l with
    | some _ => some (s1, Lib.join l [32], .ok)
    | none => some (s1, [], .big)) else none
  | some (s1, _, e) => some (s1, [], e)
def setS9 (nm : Txt) (w : List Nd) (s : Sh) : Option Cr :=
  match g w s with
  | none => none
  | some (s1, l, .ok) => if fitsB l && okB s1 then some ({ s1 with F := putM s1.F nm l }, 0, .ok) else none
  | some (s1, _, e) => some (s1, 0, e)
def whileS (a b : List Nd) : Nat → Sh → Int → Option Cr
  | 0, _, _ => none
  | n + 1, s, last => if okB s then (match stepP s with
    | (s0, .ok) => (match f a s0 with
      | none => none
      | some (s1, st, .ok) => if st = 0 then (match f b s1 with
          | none => none
          | some (s2, st2, .ok) => whileS a b n s2 st2
          | some (s2, _, e) => some (s2, 0, e)) else some (s1, last, .ok)
      | some (s1, _, e) => some (s1, 0, e))
    | (s0, e) => some (s0, 0, e)) else none
def eachS (nm : Txt) (b : List Nd) : List Txt → Sh → Int → Option Cr
  | [], s, last => some (s, last, .ok)
  | x :: r, s, _ => if okB s then (match stepP s with
    | (s0, .ok) => (match f b { s0 with F := putM s0.F nm [x] } with
      | none => none
      | some (s1, st, .ok) => eachS nm b r s1 st
      | some (s1, _, e) => some (s1, 0, e))
    | (s0, e) => some (s0, 0, e)) else none
def forS (nm : Txt) (w b : List Nd) (s : Sh) : Option Cr :=
  match g w s with
  | none => none
  | some (s1, l, .ok) => if fitsB l then eachS f nm b l s1 0 else none
  | some (s1, _, e) => some (s1, 0, e)
def markP (k n : Int) (s : Sh) : Sh := { s with E := s.E ++ marked k n }
/-- The commands of a pipe behind the first, but for the last. -/
def thruS : List (List Nd) → Sh → Txt → Option (Sh × Txt × Xr)
  | [], s, said => some (s, said, .ok)
  | l :: r, s, said => match catchS f l { s with hd := said } with
    | none => none
    | some (s1, t, .ok) => thruS r s1 t
    | some (s1, _, e) => some (s1, [], e)
def thruAll (ks : List (List Nd)) (s : Sh) : Option Cr :=
  match ks with
  | [] => none
  | k0 :: r => match catchS f k0 s with
    | none => none
    | some (s1, t, .ok) => (match thruS f r.dropLast s1 t with
      | none => none
      | some (s2, u, .ok) => (match r.getLast? with
        | none => none
        | some z => hearS f u z { s2 with hd := s1.hd })
      | some (s2, _, e) => some (s2, 0, e))
    | some (s1, _, e) => some (s1, 0, e)
def pipeS (ks : List (List Nd)) (s : Sh) : Option Cr :=
  if okB s then (match thruAll f ks (markP 4 (ks.length : Nat) s) with
    | none => none
    | some (s1, st, .ok) => if okB s1 then some (markP 6 (ks.length : Nat) s1, st, .ok) else none
    | some (s1, _, e) => some (s1, 0, e)) else none
def subS (c : List Nd) (s : Sh) : Option Wr :=
  match stepP s with
  | (s0, .ok) => if s0.dp = s0.md then some (s0, [], .deep) else
    (match catchS f c { s0 with dp := s0.dp + 1 } with
    | none => none
    | some (s1, t, .ok) => if 1 ≤ s1.dp ∧ s1.dp ≤ 1000000 ∧ t.length < 100000 then some ({ s1 with dp := s1.dp - 1 }, [Lib.trimRightB t 10], .ok) else none
    | some (s1, _, e) => some (s1, [], e))
  | (s0, e) => some (s0, [], e)
def openedS (fl : Txt) (m : Int) (c : List Nd) (s : Sh) : Option Cr :=
  if openB s.D fl m then
    if m = 1 then hearS f (openD s.D fl m) c { s with D := openF s.D fl m, E := s.E ++ openE s.D fl m }
    else (sayingS f none fl c { s with D := openF s.D fl m, E := s.E ++ openE s.D fl m }).map Prod.fst
  else some ({ s with D := openF s.D fl m, E := s.E ++ openE s.D fl m }, 1, .ok)
def redirS (m : Int) (w c : List Nd) (s : Sh) : Option Cr :=
  match flatS g w s with
  | none => none
  | some (s1, t, .ok) => if t = [] then some (s1, 1, .ok) else if okB s1 then
    (match openedS f t m c (markP 5 m s1) with
    | none => none
    | some (s2, st, .ok) => if okB s2 then some (markP 6 m s2, st, .ok) else none
    | some (s2, _, e) => some (s2, 0, e)) else none
  | some (s1, _, e) => some (s1, 0, e)
def hereS (w c : List Nd) (s : Sh) : Option Cr :=
  match flatS g w s with
  | none => none
  | some (s1, t, .ok) => if okB s1 then
    (match hearS f t c (markP 5 1 s1) with
    | none => none
    | some (s2, st, .ok) => if okB s2 then some (markP 6 1 s2, st, .ok) else none
    | some (s2, _, e) => some (s2, 0, e)) else none
  | some (s1, _, e) => some (s1, 0, e)
/-- A word, in one round. -/
def wordS (l : List Nd) (s : Sh) : Option Wr :=
  match l with
  | [] => none
  | x :: _ =>
    if x.kind = 1 then some (s, [x.s], .ok)
    else if x.kind = 2 then (if okB s && decide (x.s.length < 100000) then some (s, getM s.F x.s [], .ok) else none)
    else match kidsP l with
    | none => none
    | some ks =>
      if x.kind = 3 then catS g 100 ks s []
      else if x.kind = 4 then joinS g ks s none
      else if x.kind = 12 then (match ks with
        | [] => none
        | k0 :: _ => if okB s then subS f k0 s else none)
      else if x.kind = 9 then (match ks with
        | [] => none
        | k0 :: _ => (match flatS g k0 s with
          | none => none
          | some (s1, t, .ok) => some (s1, [t], .ok)
          | some (s1, _, e) => some (s1, [], e)))
      else none
def stepsB (k : Int) : Bool := !(k == 20 || k == 23 || k == 24 || k == 25 || k == 26 || k == 27 || k == 28 || k == 29)
/-- A command behind its step. -/
def bodyS (n : Nat) (x : Nd) (ks : List (List Nd)) (s : Sh) : Option Cr :=
  if x.kind = 21 then callS f g ks s
  else if x.kind = 23 then seqS f ks s 0
  else if x.kind = 32 then pipeS f ks s
  else if x.kind = 20 then some (s, 0, .ok)
  else match ks with
  | [] => none
  | [k0] => if x.kind = 22 then setS9 g x.s k0 s else if x.kind = 31 then some ({ s with H := putM s.H x.s k0 }, 0, .ok) else none
  | k0 :: k1 :: _ => if x.kind = 28 then whileS f k0 k1 n s 0 else if x.kind = 29 then forS f g x.s k0 k1 s else if x.kind = 33 then redirS f g x.n k0 k1 s else if x.kind = 34 then hereS f g k0 k1 s else none
/-- A command, in one round. -/
def cmdS (n : Nat) (l : List Nd) (s : Sh) : Option Cr :=
  match l with
  | [] => none
  | x :: _ => if okB s && decide (x.s.length < 100000) then
      (match kidsP l with
      | none => none
      | some ks => if stepsB x.kind then (match stepP s with
          | (s0, .ok) => bodyS f g n x ks s0
          | (s0, e) => some (s0, 0, e)) else bodyS f g n x ks s) else none
end
/-- The interpreter, with so much fuel. -/
def ev : Nat → (List Nd → Sh → Option Cr) × (List Nd → Sh → Option Wr)
  | 0 => (fun _ _ => none, fun _ _ => none)
  | n + 1 => (cmdS (ev n).1 (ev n).2 n, wordS (ev n).1 (ev n).2)
end Go.Proofs.YtfafhjglcaikoaaGreatDoor
/-! Steps, and what is said. -/
namespace Go.Proofs.YtfafhjglcaikoaaGreatDoor
open Go.RowKit
attribute [local go_sem] Oper.semAt_some

variable {W W' : World} {K : Nat → Prop} {rb cb sb kb : Nat} {s : Sh} {ea : Nat → Addr}
theorem Rn.drewN (h : Rn W K rb cb sb kb s) (n : Nat) : Rn (W.drewN n) K rb cb sb kb s := h.below (below_drewN W n)
theorem stp_drewN (K : Nat → Prop) (W : World) (n : Nat) : Stp W K (W.drewN n) K := Stp.ofBelow (below_drewN W n)
theorem begins_any (k : Int) (W : World) : Calls Tryz.prog 64 #[.int .i64 k] W fun e w' => e = .returned (.bool (stepsB k)) ∧ w' = W := by
  unfold stepsB
  go_enter Tryz.func64, Tryz.ntmps64
  by_cases h0 : k = 20
  · subst h0; go_wp2_with fail; go_ret; exact ⟨rfl, rfl⟩
  by_cases h1 : k = 23
  · subst h1; go_wp2_with fail; go_ret; exact ⟨rfl, rfl⟩
  by_cases h2 : k = 24
  · subst h2; go_wp2_with fail; go_ret; exact ⟨rfl, rfl⟩
  by_cases h3 : k = 25
  · subst h3; go_wp2_with fail; go_ret; exact ⟨rfl, rfl⟩
  by_cases h4 : k = 26
  · subst h4; go_wp2_with fail; go_ret; exact ⟨rfl, rfl⟩
  by_cases h5 : k = 27
  · subst h5; go_wp2_with fail; go_ret; exact ⟨rfl, rfl⟩
  by_cases h6 : k = 28
  · subst h6; go_wp2_with fail; go_ret; exact ⟨rfl, rfl⟩
  by_cases h7 : k = 29
  · subst h7; go_wp2_with fail; go_ret; exact ⟨rfl, rfl⟩
  go_wp2_with fail
  go_ret
  exact ⟨by simp [h0, h1, h2, h3, h4, h5, h6, h7], rfl⟩
theorem step_any (h : Rn W K rb cb sb kb s) (hE : Ers W ea) (hs : s.st ≤ 1000000) :
    Calls Tryz.prog 65 #[rP rb] W fun e w' => e = .returned (xrV ea (stepP s).2) ∧ Rn w' K rb cb sb kb (stepP s).1 ∧ Stp W K w' K := by
  have c3 : W.cell? ⟨rb, 3, none⟩ = some (.int .i64 (s.st : Nat)) := h.rc.cell 3
  have c4 : W.cell? ⟨rb, 4, none⟩ = some (.int .i64 (s.ms : Nat)) := h.rc.cell 4
  have f3 := h.rc.frozen 3
  have c2 := (hE 2 (by omega)).1
  by_cases hq : s.st = s.ms
  · have e1 : stepP s = (s, .fuel) := by simp [stepP, hq]
    rw [e1]
    have hq' : ((s.st : Int) == (s.ms : Int)) = true := by simp [hq]
    have HR : Hid (∀ n, Rn (W.drewN n) K rb cb sb kb s ∧ Stp W K (W.drewN n) K) := fun n => ⟨h.drewN n, stp_drewN K W n⟩
    clear h hE e1 hq
    go_enter Tryz.func65, Tryz.ntmps65
    go_wp2_with fail
    go_quiet (fail)
    go_wp2_with fail
    go_ret
    exact ⟨rfl, HR.out _⟩
  · have e1 : stepP s = ({ s with st := s.st + 1 }, .ok) := by simp [stepP, hq]
    rw [e1]
    have hq' : ((s.st : Int) == (s.ms : Int)) = false := by simp; omega
    have HR : Hid (∀ n, Rn ((W.drewN n).setCell ⟨rb, 3, none⟩ (.int .i64 ((s.st : Int) + 1))) K rb cb sb kb { s with st := s.st + 1 } ∧ Stp W K ((W.drewN n).setCell ⟨rb, 3, none⟩ (.int .i64 ((s.st : Int) + 1))) K) := fun n => by
      obtain ⟨h1, h2⟩ := (h.drewN n).set 3 (.int .i64 ((s.st : Int) + 1)) { s with st := s.st + 1 } (by simp [rnC]) rfl rfl rfl rfl rfl rfl
      exact ⟨h1, (stp_drewN K W n).trans h2⟩
    clear h hE e1 hq
    go_enter Tryz.func65, Tryz.ntmps65
    go_wp2_with fail
    go_quiet (fail)
    go_wp2_with fail
    go_ret
    exact ⟨rfl, HR.out _⟩
/-- Nothing in it is too great. -/
structure Okk (s : Sh) : Prop where
  F : s.F.length < 100000
  H : s.H.length < 100000
  D : s.D.length < 100000
  R : s.R.length < 100000
  E : s.E.length < 1000000
  Dn : ∀ p ∈ s.D, p.1.length < 100000 ∧ p.2.length < 100000
  Rn : ∀ r ∈ s.R, r.args.length < 100000 ∧ r.out.length < 100000
  hd : s.hd.length < 100000
  fl : s.fl.length < 100000
  st : s.st ≤ 1000000
  ms : s.ms ≤ 1000000
  dp : s.dp ≤ 1000000
  md : s.md ≤ 1000000
  ct : ∀ t, s.ct = some t → t.length ≤ 2000
theorem okk (h : okB s = true) : Okk s := by
  simp only [okB, Bool.and_eq_true, decide_eq_true_eq, List.all_eq_true] at h
  obtain ⟨⟨⟨⟨⟨⟨⟨⟨⟨⟨⟨⟨⟨a1, a2⟩, a3⟩, a4⟩, a5⟩, a6⟩, a7⟩, a8⟩, a9⟩, b1⟩, b2⟩, b3⟩, b4⟩, b5⟩ := h
  exact ⟨a1, a2, a3, a4, a5, a6, a7, a8, a9, b1, b2, b3, b4, fun t ht => by rw [ht] at b5; simpa using b5⟩
theorem datF_small (h : Okk s) (f : Txt) : (datF s.D f).length < 4294967296 := by
  unfold datF
  cases hf : s.D.find? (fun p => p.1 == f) with
  | none => exact Nat.zero_lt_succ _
  | some p => have := (h.Dn p (List.mem_of_find?_eq_some hf)).2; show p.2.length < _; omega
/-- What is asked where it writes. -/
structure Okw (s : Sh) : Prop where
  D : s.D.length < 4294967296
  E : s.E.length < 4294967296
  dat : ∀ f, (datF s.D f).length < 4294967296
  fl : s.fl.length < 4294967296
  ct : ∀ t, s.ct = some t → t.length ≤ 2000
theorem Okk.w (h : Okk s) : Okw s := ⟨by have := h.D; omega, by have := h.E; omega, datF_small h, by have := h.fl; omega, h.ct⟩
theorem write_rn (d : Txt) (hE : Ers W ea) (h : Rn W K rb cb sb kb s) (hk : Okw s) (hd : d.length < 4294967296) :
    Calls Tryz.prog 207 #[kP kb, str s.fl, str d] W fun e w' => e = .returned (errR (writeB s.D s.fl d) (ea 1)) ∧ ∃ K', Rn w' K' rb cb sb kb { s with D := writeF s.D s.fl d, E := s.E ++ writeE s.D s.fl d } ∧ Stp W K w' K' := by
  refine h.onKern (P := fun e => e = .returned (errR (writeB s.D s.fl d) (ea 1))) fun KK mb ev rv Y X k1 k2 k3 => ?_
  have hl : X.length = s.E.length := by rw [← k3, List.length_map]
  have := hk.E
  have := hk.D
  have := hk.fl
  exact write_any s.fl d (ea 1) k1 (by omega) (by omega) (by omega) hd (hk.dat _) (hE 1 (by omega))
theorem say_any (d : Txt) (hE : Ers W ea) (h : Rn W K rb cb sb kb s) (hk : Okw s) (hd : d.length < 4294967296) :
    Calls Tryz.prog 159 #[rP rb, str d] W fun e w' => e = .returned (xrV ea (sayP s d).2) ∧ ∃ K', Rn w' K' rb cb sb kb (sayP s d).1 ∧ Stp W K w' K' := by
  have hdl : (⟨d.toArray⟩ : ByteArray).size = d.length := by show d.toArray.size = _; simp
  have c1 : W.cell? ⟨rb, 1, none⟩ = some (kP kb) := h.rc.cell 1
  have c9 : W.cell? ⟨rb, 9, none⟩ = some (str s.fl) := h.rc.cell 9
  cases hc : s.ct with
  | none =>
    have c8 : W.cell? ⟨rb, 8, none⟩ = some (.pointer none) := (h.rc.cell 8).trans (by simp [rnC, hc, ctP])
    have e1 : sayP s d = ({ s with D := writeF s.D s.fl d, E := s.E ++ writeE s.D s.fl d }, if writeB s.D s.fl d then .ok else .big) := by simp [sayP, hc]
    rw [e1]
    have HW : Hid (Calls Tryz.prog 207 #[kP kb, str s.fl, str d] W.drew fun e w' => e = .returned (errR (writeB s.D s.fl d) (ea 1)) ∧ (w'.cell? ⟨rb, 1, none⟩ = some (kP kb) ∧ w'.cell? ⟨rb, 9, none⟩ = some (str s.fl)) ∧ ∃ K', Rn w' K' rb cb sb kb { s with D := writeF s.D s.fl d, E := s.E ++ writeE s.D s.fl d } ∧ Stp W K w' K') := by
      refine Calls.mono (write_rn (ea := ea) d (fun i hi => (hE i hi).below (Below.refl _ W).drew (hE i hi).2) (h.below (Below.refl _ W).drew) hk hd) ?_
      rintro e w' ⟨h1, K', h2, h3⟩
      exact ⟨h1, ⟨h2.rc.cell 1, h2.rc.cell 9⟩, K', h2, (Stp.ofBelow (Below.refl _ W).drew).trans h3⟩
    have HX : Hid (errR (writeB s.D s.fl d) (ea 1) = xrV ea (if writeB s.D s.fl d then .ok else .big)) := by unfold Hid errR; split <;> rfl
    obtain ⟨B, hB⟩ : ∃ B, errR (writeB s.D s.fl d) (ea 1) = B := ⟨_, rfl⟩
    rw [hB] at HW HX
    obtain ⟨x, hx⟩ : ∃ x, (if writeB s.D s.fl d then Xr.ok else .big) = x := ⟨_, rfl⟩
    simp only [hx] at HX ⊢
    clear h hE hk e1 hB hc hx
    go_enter Tryz.func159, Tryz.ntmps159
    go_wp2_with fail
    go_region_held3 (fun w' => w'.cell? ⟨rb, 1, none⟩ = some (kP kb) ∧ w'.cell? ⟨rb, 9, none⟩ = some (str s.fl)) (go_keep) (first | (go_at_call 207; refine Calls.mono HW.out ?_; rintro e w1 ⟨rfl, ⟨d1, d9⟩, K1, HR, HS⟩))
    go_wp2_with fail
    go_ret
    exact ⟨congrArg Ending.returned HX.out, K1, HR, HS⟩
  | some t =>
    have c8 : W.cell? ⟨rb, 8, none⟩ = some (.pointer (some ⟨cb, 0, none⟩)) := (h.rc.cell 8).trans (by simp [rnC, hc, ctP])
    have hcb : W.cell? ⟨cb, 0, none⟩ = some (str t) := (h.cc t hc).cell 0
    have hfz := (h.cc t hc).frozen 0
    have htl : (⟨t.toArray⟩ : ByteArray).size = t.length := by show t.toArray.size = _; simp
    have htb := hk.ct t hc
    have c0 := (hE 1 (by omega)).1
    by_cases hb : (2000 : Int) - t.length < d.length
    · have e1 : sayP s d = (s, .big) := by simp [sayP, hc, hb]
      rw [e1]
      have hb' : decide ((2000 : Int) - (t.length : Nat) < (d.length : Nat)) = true := by simpa using hb
      have HR : Hid (Rn W K rb cb sb kb s ∧ Stp W K W K) := ⟨h, Stp.refl W K⟩
      clear h hE hk e1 hb hc
      go_enter Tryz.func159, Tryz.ntmps159
      go_wp2_with fail
      go_ret
      exact ⟨rfl, K, HR.out⟩
    · have e1 : sayP s d = ({ s with ct := some (t ++ d) }, .ok) := by simp [sayP, hc, hb]
      rw [e1]
      have hb' : decide ((2000 : Int) - (t.length : Nat) < (d.length : Nat)) = false := by simpa using hb
      have HR : Hid (Rn (W.setCell ⟨cb, 0, none⟩ (str (t ++ d))) K rb cb sb kb { s with ct := some (t ++ d) } ∧ Stp W K (W.setCell ⟨cb, 0, none⟩ (str (t ++ d))) K) := h.said hc (t ++ d)
      have hap : (⟨t.toArray⟩ : ByteArray) ++ ⟨d.toArray⟩ = ⟨(t ++ d).toArray⟩ := by
        apply ByteArray.ext
        simp
      clear h hE hk e1 hb hc
      go_enter Tryz.func159, Tryz.ntmps159
      go_wp2_with fail
      go_ret
      exact ⟨rfl, K, HR.out⟩
end Go.Proofs.YtfafhjglcaikoaaGreatDoor
/-! The children of a node, as pieces of it. -/
namespace Go.Proofs.YtfafhjglcaikoaaGreatDoor
open Go.RowKit
attribute [local go_sem] Oper.semAt_some

theorem NdAt.sub {W : World} {g o cap : Nat} {X : List Nd} (h : NdAt W (.slice (some ⟨g, o, none⟩) X.length cap) X) (p m : Nat) (h1 : 1 ≤ m) (h2 : p + m ≤ X.length) : NdAt W (.slice (some ⟨g, o + p * 5, none⟩) m (cap - p)) ((X.drop p).take m) := by
  have hlen : ((X.drop p).take m).length = m := by rw [List.length_take, List.length_drop]; omega
  rcases h with ⟨h0, _⟩ | ⟨g', o', cap', hv, hc, hg, hcs⟩
  · have : X = [] := by simpa using h0
    subst this
    simp at h2
    omega
  · rw [List.length_map] at hv hc
    cases hv
    refine .inr ⟨g, o + p * 5, cap - p, by rw [List.length_map, hlen], by rw [List.length_map, hlen]; omega, hg, fun j cs hj i u hu => ?_⟩
    have hjm : j < m := by
      have := (List.getElem?_eq_some_iff.1 hj).1
      rw [List.length_map, hlen] at this
      exact this
    rw [List.getElem?_map, List.getElem?_take_of_lt hjm, List.getElem?_drop] at hj
    have := hcs (p + j) cs (by rw [List.getElem?_map]; exact hj) i u hu
    rw [show o + p * 5 + j * 5 + i = o + (p + j) * 5 + i by omega]
    exact this
/-- Pieces of the value v, in a row of one's own. -/
def Kds (W : World) (B : Nat) (v kv : Value) (ks : List (List Nd)) : Prop :=
  ∃ L : List (Value × List Nd), L.map Prod.snd = ks ∧ W.ownsRow B 22 1 kv L.length (L.map Prod.fst) ∧ ∀ p ∈ L, NdAt W p.1 p.2 ∧ ∀ b, p.1.ownBlock = some b → v.ownBlock = some b
theorem Kds.below {W W' : World} {B : Nat} {v kv : Value} {ks : List (List Nd)} (h : Kds W B v kv ks) (hb : Below W.heap.size W W') : Kds W' B v kv ks := by
  obtain ⟨L, h1, h2, h3⟩ := h
  exact ⟨L, h1, owns_turn h2 (Turn.ofBelow (S := fun _ => False) hb) (fun _ _ h => h), fun p hp => ⟨(h3 p hp).1.turn' hb, (h3 p hp).2⟩⟩
theorem Kds.turn {W W' : World} {B : Nat} {v kv : Value} {ks : List (List Nd)} {S : Nat → Prop} (h : Kds W B v kv ks) (hT : Turn S W W') (hv : ∀ b, v.ownBlock = some b → ¬ S b) (hk : ∀ b, kv.ownBlock = some b → ¬ S b) : Kds W' B v kv ks := by
  obtain ⟨L, h1, h2, h3⟩ := h
  exact ⟨L, h1, owns_turn h2 hT hk, fun p hp => ⟨(h3 p hp).1.turn hT (fun b hb => hv b ((h3 p hp).2 b hb)), (h3 p hp).2⟩⟩
theorem Kds.form {W : World} {B : Nat} {v kv : Value} {ks : List (List Nd)} (h : Kds W B v kv ks) : ∃ ad cap, kv = .slice ad ks.length cap := by
  obtain ⟨L, h1, h2, h3⟩ := h
  obtain ⟨ad, cap, h4⟩ := owns_slice h2
  exact ⟨ad, cap, by rw [h4, ← h1, List.length_map]⟩
/-- One of them. -/
theorem Kds.at {W : World} {B : Nat} {v kv : Value} {ks : List (List Nd)} (h : Kds W B v kv ks) {j : Nat} {k : List Nd} (hj : ks[j]? = some k) :
    ∃ g cap pv, kv = .slice (some ⟨g, 0, none⟩) ks.length cap ∧ g < W.heap.size ∧ W.cell? ⟨g, j, none⟩ = some pv ∧ NdAt W pv k ∧ ∀ b, pv.ownBlock = some b → v.ownBlock = some b := by
  obtain ⟨L, h1, h2, h3⟩ := h
  subst h1
  rw [List.getElem?_map] at hj
  obtain ⟨p, hp, rfl⟩ := Option.map_eq_some_iff.1 hj
  have hl := (List.getElem?_eq_some_iff.1 hp).1
  rcases h2.2 with ⟨_, h0⟩ | ⟨g, cap, cur, hv, hb, hc, hn, _, _, h4⟩
  · omega
  · refine ⟨g, cap, p.1, by rw [hv, List.length_map], (Array.getElem?_eq_some_iff.1 hc).1, ?_, h3 p (List.mem_of_getElem? hp)⟩
    have e1 : W.cell? ⟨g, j, none⟩ = cur[j]? := by simp [World.cell?, hc]
    rw [e1, ← Array.getElem?_toList, ← List.getElem?_take_of_lt (show j < L.length * 1 by omega), h4, List.getElem?_map, hp]
    rfl
theorem kidsF_len : ∀ (n : Nat) (l : List Nd) (ks : List (List Nd)), kidsF n l = some ks → ks.length ≤ n
  | 0, [], ks, h => by simp [kidsF] at h; subst h; simp
  | 0, _ :: _, ks, h => by simp [kidsF] at h
  | n + 1, [], ks, h => by simp [kidsF] at h; subst h; simp
  | n + 1, x :: r, ks, h => by
    unfold kidsF at h
    split at h
    · obtain ⟨t, ht, rfl⟩ := Option.map_eq_some_iff.1 h
      have := kidsF_len n _ t ht
      simp
      omega
    · cases h
theorem kidsF_step {X : List Nd} {m p len : Nat} {rest : List (List Nd)} (hF : kidsF m (X.drop p) = some rest) (hl : X.length = len) (hp : p < len) :
    ∃ (y : Nd) (sz m' : Nat) (t : List (List Nd)), X[p]? = some y ∧ y.size = sz ∧ 1 ≤ sz ∧ p + sz ≤ len ∧ kidsF m' (X.drop (p + sz)) = some t ∧ rest = (X.drop p).take sz :: t := by
  obtain ⟨y, hy⟩ : ∃ y, X[p]? = some y := ⟨_, List.getElem?_eq_getElem (by rw [hl]; exact hp)⟩
  have hdr : X.drop p = y :: X.drop (p + 1) := by
    obtain ⟨h1, h2⟩ := List.getElem?_eq_some_iff.1 hy
    rw [List.drop_eq_getElem_cons h1, h2]
  rw [hdr] at hF
  cases m with
  | zero => simp [kidsF] at hF
  | succ m' =>
    unfold kidsF at hF
    by_cases hc : 1 ≤ y.size ∧ y.size ≤ ((X.drop (p + 1)).length : Int) + 1
    case neg => rw [if_neg hc] at hF; cases hF
    rw [if_pos hc, ← hdr] at hF
    obtain ⟨t, ht, rfl⟩ := Option.map_eq_some_iff.1 hF
    rw [List.length_drop, hl] at hc
    obtain ⟨sz, hsz⟩ : ∃ sz : Nat, y.size = sz := ⟨y.size.toNat, by omega⟩
    rw [hsz, Int.toNat_natCast, List.drop_drop] at ht
    refine ⟨y, sz, m', t, hy, hsz, by omega, by omega, ht, by rw [hsz, Int.toNat_natCast]⟩
theorem kidsF_end {X : List Nd} {m p len : Nat} {rest : List (List Nd)} (hF : kidsF m (X.drop p) = some rest) (hl : X.length = len) (hp : len ≤ p) : rest = [] := by
  rw [List.drop_eq_nil_of_le (by omega)] at hF
  cases m <;> simpa [kidsF] using hF.symm
set_option maxRecDepth 100000 in
set_option maxHeartbeats 4000000 in
theorem kids_any (v : Value) (X : List Nd) (ks : List (List Nd)) (w : World) (h : NdAt w v X) (hk : kidsP X = some ks) :
    Calls Tryz.prog 66 #[v] w fun e w' => ∃ kv, e = .returned kv ∧ Kds w' w.heap.size v kv ks ∧ Below w.heap.size w w' := by
  obtain ⟨i0, hi0, hz0, hz1, hz2⟩ := info_parts info25
  obtain ⟨x, r, rfl⟩ : ∃ x r, X = x :: r := by
    cases X with
    | nil => simp [kidsP] at hk
    | cons x r => exact ⟨x, r, rfl⟩
  have hk' : kidsP (x :: r) = if 0 ≤ x.k ∧ x.k ≤ 100000 ∧ r.length ≤ 100000 then kidsF r.length r else none := rfl
  rw [hk'] at hk
  by_cases hc : 0 ≤ x.k ∧ x.k ≤ 100000 ∧ r.length ≤ 100000
  case neg => rw [if_neg hc] at hk; cases hk
  rw [if_pos hc] at hk
  obtain ⟨hx1, hx2, hx3⟩ := hc
  obtain ⟨K0, hK0⟩ : ∃ K0 : Nat, x.k = K0 := ⟨x.k.toNat, by omega⟩
  have HKS : Hid (kidsF r.length r = some ks) := hk
  obtain ⟨X, hX⟩ : ∃ X, x :: r = X := ⟨_, rfl⟩
  have HD : Hid (X.drop 1 = r) := by rw [← hX]; rfl
  have hlen : X.length = r.length + 1 := by rw [← hX]; rfl
  have hx0 : X[0]? = some x := by rw [← hX]; rfl
  rw [hX] at h
  obtain ⟨g, o, cap, rfl, hg, hcs⟩ := h.at hx0
  have hcl : X.length ≤ cap := by
    rcases h with ⟨h0, _⟩ | ⟨g', o', cap', hv, hcc, _⟩
    · have : X = [] := by simpa using h0
      rw [this] at hlen
      simp at hlen
    · rw [List.length_map] at hv hcc
      cases hv
      exact hcc
  have c2 := hcs.2.2.1
  rw [hK0, Nat.zero_mul, Nat.add_zero] at c2
  have HH : Hid (NdAt w (.slice (some ⟨g, o, none⟩) X.length cap) X) := h
  obtain ⟨len, hl⟩ : ∃ len, X.length = len := ⟨_, rfl⟩
  rw [hl] at HH hlen hcl ⊢
  have HL : Hid (X.length = len) := hl
  clear h hcs hX hx0 hk hk' hl
  go_enter Tryz.func66, Tryz.ntmps66
  go_wp2_with (at_make; refine wpList_make_own _ rfl _ _ 46 rfl w.heap.size 22 i0 _ 1 Tryz.underlying46 hi0 hz0 hz1 .i64 .i64 _ K0 rfl rfl rfl (by rw [hz2]; omega) (by have := maxLen_big; omega) (Nat.le_refl _) ?_; intro w0 hown0 hgrow0)
  have hb0 : Below w.heap.size w w0 := (Below.refl _ w).grown hgrow0 (Nat.le_refl _) fun q e => by cases e
  have HO0 : Hid (w0.ownsRow w.heap.size 22 1 (.slice (some ⟨w.heap.size, 0, none⟩) 0 K0) 0 []) := hown0
  clear hown0 hgrow0
  go_loopw [3, 4] (fun v3 v4 wr => ∃ (L : List (Value × List Nd)) (p m : Nat) (rest : List (List Nd)), v4 = .int .i64 p ∧ 1 ≤ p ∧ p ≤ len ∧ L.length ≤ p ∧ Hid (kidsF m (X.drop p) = some rest) ∧ Hid (L.map Prod.snd ++ rest = ks) ∧ Hid (wr.ownsRow w.heap.size 22 1 v3 L.length (L.map Prod.fst)) ∧ Hid (∀ q ∈ L, NdAt w q.1 q.2 ∧ ∀ b, q.1.ownBlock = some b → b = g) ∧ Below w.heap.size w wr) (fun _ v4 _ => len - (intOf v4).toNat)
  case atStart => exact ⟨[], 1, r.length, ks, rfl, by omega, by omega, by simp, by rw [HD.out]; exact HKS, rfl, HO0.out, fun q hq => by simp at hq, hb0⟩
  case round =>
    obtain ⟨L, p, m, rest, rfl, hp1, hp2, hLp, HF, HR, HO, HQ, hbr⟩ := hrel
    by_cases hpl : p < len
    · obtain ⟨y, sz, m', t, hy, hsz, h1, h2, ht, rfl⟩ := kidsF_step HF.out HL.out hpl
      have HT : Hid (kidsF m' (X.drop (p + sz)) = some t) := ht
      have hnd := HH.out
      have hl := HL.out
      rw [← hl] at hnd
      obtain ⟨g', o', cap', hv, _, hcs⟩ := hnd.at hy
      cases hv
      have hc3 := hcs.2.2.2.1
      rw [hsz] at hc3
      have HC3 : Hid (w.cell? ⟨g, o + p * 5 + 3, none⟩ = some (.int .i64 (sz : Nat))) := hc3
      have c3 := (hbr.cell (p := ⟨g, o + p * 5 + 3, none⟩) hg).trans hc3
      have HN : Hid (NdAt w (.slice (some ⟨g, o + p * 5, none⟩) sz (cap - p)) ((X.drop p).take sz)) := hnd.sub p sz h1 (by omega)
      have ho := HO.out
      have hws := hbr.size
      clear hcs hy ht hnd hl hsz hc3
      have hal := ho.alloc (.cells #[.slice (some ⟨g, o + p * 5, none⟩) sz (cap - p)] 22)
      go_wp2_with (at_builtin; refine wpList_append_own _ rfl _ _ 46 rfl w.heap.size 22 i0 _ 1 24 Tryz.underlying46 hi0 hz0 hz1 hz2 rfl (by decide) _ _ _ rfl hal ⟨wr.heap.size, 0, none⟩ 1 1 [.slice (some ⟨g, o + p * 5, none⟩) sz (cap - p)] rfl rfl (cells_new _ [.slice (some ⟨g, o + p * 5, none⟩) sz (cap - p)] _) (by simp [Value.oneCell']) (by have := maxLen_big; omega) (by omega) (by simp; omega) ?_; intro v2 w2 hown2 hgrow2 _; have hb2 : Below w.heap.size w w2 := grown_own (by simp; omega) (hbr.alloc hws _) hal hgrow2; have c4 := (hb2.cell (p := ⟨g, o + p * 5 + 3, none⟩) hg).trans HC3.out)
      refine ⟨⟨L ++ [(.slice (some ⟨g, o + p * 5, none⟩) sz (cap - p), (X.drop p).take sz)], p + sz, m', t, by simp, by omega, by omega, by simp; omega, HT, ?_, ?_, ?_, hb2⟩, by simp [intOf]; omega⟩
      · have := HR.out
        unfold Hid
        rw [← this]
        simp
      · unfold Hid
        rw [List.map_append, List.length_append]
        exact hown2
      · intro q hq
        rcases List.mem_append.1 hq with hq | hq
        · exact HQ.out q hq
        · simp only [List.mem_singleton] at hq
          subst hq
          exact ⟨HN.out, fun b hb => by simpa [Value.ownBlock] using hb.symm⟩
    · have hpz : p = len := by omega
      subst hpz
      have hr := kidsF_end HF.out HL.out (Nat.le_refl _)
      subst hr
      go_wp2_with fail
      go_ret
      refine ⟨_, rfl, ⟨L, ?_, HO.out, fun q hq => ⟨(HQ.out q hq).1.turn' hbr, fun b hb => ?_⟩⟩, hbr⟩
      · have := HR.out
        rwa [List.append_nil] at this
      · rw [(HQ.out q hq).2 b hb]
        rfl
end Go.Proofs.YtfafhjglcaikoaaGreatDoor
namespace Go.Proofs.YtfafhjglcaikoaaGreatDoor
open Go.RowKit
attribute [local go_sem] Oper.semAt_some

variable {W W' : World} {K : Nat → Prop} {rb cb sb kb : Nat} {s : Sh} {ea : Nat → Addr}
/-- How a part of a run comes back. -/
def Rb (W : World) (K : Nat → Prop) (rb cb sb kb : Nat) (s1 : Sh) (x : Xr) (w' : World) : Prop :=
  ∃ K' cb', Rn w' K' rb cb' sb kb s1 ∧ Stp W K w' K' ∧ (x = .ok → cb' = cb)
/-- How a command comes back. -/
def Done (ea : Nat → Addr) (W : World) (K : Nat → Prop) (rb cb sb kb : Nat) (r : Cr) (e : Ending) (w' : World) : Prop :=
  e = .returned (.tuple #[.int .i64 r.2.1, xrV ea r.2.2]) ∧ Rb W K rb cb sb kb r.1 r.2.2 w'
theorem Rb.of {s1 : Sh} {x : Xr} {w' : World} {K' : Nat → Prop} (h : Rn w' K' rb cb sb kb s1) (hs : Stp W K w' K') : Rb W K rb cb sb kb s1 x w' := ⟨K', cb, h, hs, fun _ => rfl⟩
theorem Rb.pre {s1 : Sh} {x : Xr} {w1 w' : World} {K1 : Nat → Prop} (hs : Stp W K w1 K1) (h : Rb w1 K1 rb cb sb kb s1 x w') : Rb W K rb cb sb kb s1 x w' := by
  obtain ⟨K', cb', h1, h2, h3⟩ := h
  exact ⟨K', cb', h1, hs.trans h2, h3⟩
theorem Rb.post {s1 : Sh} {x : Xr} {w1 w' : World} (h : Rb W K rb cb sb kb s1 x w1) (hb : Below w1.heap.size w1 w') : Rb W K rb cb sb kb s1 x w' := by
  obtain ⟨K', cb', h1, h2, h3⟩ := h
  exact ⟨K', cb', h1.below hb, h2.trans (Stp.ofBelow hb), h3⟩
theorem Rn.drew (h : Rn W K rb cb sb kb s) : Rn W.drew K rb cb sb kb s := h.below (Below.refl _ W).drew
theorem stp_drew (K : Nat → Prop) (W : World) : Stp W K W.drew K := Stp.ofBelow (Below.refl _ W).drew
theorem Off.below {v : Value} (h : Off W K v) (hb : Below W.heap.size W W') : Off W' K v := h.stp (Stp.ofBelow hb)
theorem xr_ok {x : Xr} : (xrV ea x = .nilIface) ↔ x = .ok := by cases x <;> simp [xrV, errV]
theorem Rn.store (h : Rn W K rb cb sb kb s) : ∃ KS vb fb V G, Sto W KS sb vb fb V G ∧ cont V = s.F ∧ cont G = s.H := by
  obtain ⟨KS, KK, ⟨vb, fb, mb, V, G, ev, rv, Y, X, a1, a2, a3, _⟩, _⟩ := h.ex
  exact ⟨KS, vb, fb, V, G, a1, a2, a3⟩
theorem Rn.storeCell (h : Rn W K rb cb sb kb s) : ∃ vb fb, Cel W sb 144 #[.map (some vb), .map (some fb)] := by
  obtain ⟨KS, vb, fb, V, G, a1, _⟩ := h.store
  exact ⟨vb, fb, a1.sc⟩

theorem exec_rn (nm : Txt) (l : List Txt) (va : Value) (h : Rn W K rb cb sb kb s) (hk : Okk s) (ht : Tx W va l) (hl : l.length < 4294967296) :
    Calls Tryz.prog 160 #[kP kb, str nm, str s.hd, va] W fun e w' => e = .returned (.tuple #[str (outOf (rowOf s.R nm l) s.hd), .int .i64 (statOf (rowOf s.R nm l)), .bool (rowOf s.R nm l).isSome]) ∧
      ∃ K', Rn w' K' rb cb sb kb { s with E := s.E ++ [⟨1, statOf (rowOf s.R nm l), nm, heardOf (rowOf s.R nm l) s.hd, l⟩] } ∧ Stp W K w' K' := by
  refine h.onKern (P := fun e => e = .returned (.tuple #[str (outOf (rowOf s.R nm l) s.hd), .int .i64 (statOf (rowOf s.R nm l)), .bool (rowOf s.R nm l).isSome])) (D' := s.D) (E' := [⟨1, statOf (rowOf s.R nm l), nm, heardOf (rowOf s.R nm l) s.hd, l⟩]) fun KK mb ev rv Y X k1 k2 k3 => ?_
  have hlE : X.length = s.E.length := by rw [← k3, List.length_map]
  have hlR : Y.length = s.R.length := by rw [← k2, List.length_map]
  have h1 := hk.E
  have h2 := hk.R
  have h3 := hk.hd
  have h4 : ∀ p ∈ Y, p.1.args.length < 100000 ∧ p.1.out.length < 100000 := fun p hp => hk.Rn p.1 (by rw [← k2]; exact List.mem_map_of_mem hp)
  refine (exec_any nm s.hd l va k1 (by omega) (by omega) ht hl (fun p hp => by have := (h4 p hp).1; omega) (by omega) (fun p hp => by have := (h4 p hp).2; omega) (rowOf s.R nm l) (by rw [k2])).mono ?_
  rintro e w' ⟨rfl, ev', lv', K', b1, b2⟩
  exact ⟨rfl, ev', [(⟨1, statOf (rowOf s.R nm l), nm, heardOf (rowOf s.R nm l) s.hd, l⟩, lv')], K', b1, rfl, b2⟩
theorem reads_rn (nm : Txt) (l : List Txt) (va : Value) (h : Rn W K rb cb sb kb s) (hR : s.R.length < 100000) (hRn : ∀ r ∈ s.R, r.args.length < 100000) (ht : Tx W va l) (hl : l.length < 4294967296) :
    Calls Tryz.prog 161 #[kP kb, str nm, va] W fun e w' => e = .returned (.bool (readsB (rowOf s.R nm l))) ∧ Below W.heap.size W w' := by
  obtain ⟨KS, KK, ⟨vb, fb, mb, V, G, ev, rv, Y, X, a1, a2, a3, a4, a5, a6⟩, _⟩ := h.ex
  have hlR : Y.length = s.R.length := by rw [← a5, List.length_map]
  exact reads_any nm l va a4 (by omega) ht hl (fun p hp => by have := hRn p.1 (by rw [← a5]; exact List.mem_map_of_mem hp); omega) (rowOf s.R nm l) (by rw [a5])
theorem putV_rn (k : Txt) (l : List Txt) (v : Value) (h : Rn W K rb cb sb kb s) (hF : s.F.length < 4294967296) (hk : k.length ≤ maxLen) (ht : Tx W v l) (hl : l.length * 16 ≤ big) :
    Calls Tryz.prog 106 #[sP sb, str k, v] W fun e w' => e = .returned (.tuple #[]) ∧ ∃ K', Rn w' K' rb cb sb kb { s with F := putM s.F k l } ∧ Stp W K w' K' := by
  refine h.onSto (P := fun e _ => e = .returned (.tuple #[])) (F' := putM s.F k l) (H' := s.H) fun KS vb fb V G k1 k2 k3 => ?_
  have hlV : V.length = s.F.length := by rw [← k2, cont_length]
  refine (set_any k1 k hk v l ht hl (by omega)).mono ?_
  rintro e w' ⟨rfl, u, K', b1, b2⟩
  exact ⟨rfl, K', _, _, b1, by rw [cont_put, k2], k3, b2⟩
theorem putF_rn (k : Txt) (l : List Nd) (v : Value) (h : Rn W K rb cb sb kb s) (hF : s.H.length < 4294967296) (hk : k.length ≤ maxLen) (ht : NdAt W v l) (hl : l.length < 4294967296) :
    Calls Tryz.prog 74 #[fP sb, str k, v] W fun e w' => e = .returned (.tuple #[]) ∧ ∃ K', Rn w' K' rb cb sb kb { s with H := putM s.H k l } ∧ Stp W K w' K' := by
  refine h.onSto (P := fun e _ => e = .returned (.tuple #[])) (F' := s.F) (H' := putM s.H k l) fun KS vb fb V G k1 k2 k3 => ?_
  have hlV : G.length = s.H.length := by rw [← k3, cont_length]
  refine (setFun_any k1 k hk v l ht hl (by omega)).mono ?_
  rintro e w' ⟨rfl, u, K', b1, b2⟩
  exact ⟨rfl, K', _, _, b1, k2, by rw [cont_put, k3], b2⟩
theorem setArgs_rn (l : List Txt) (v : Value) (h : Rn W K rb cb sb kb s) (hF : s.F.length < 4294967296) (ht : Tx W v l) (hl : l.length * 16 ≤ big) :
    Calls Tryz.prog 63 #[sP sb, v] W fun e w' => (∃ v', e = .returned v' ∧ w'.ownsRow W.heap.size 9 1 v' (getM s.F star []).length (txV (getM s.F star []))) ∧ ∃ K', Rn w' K' rb cb sb kb { s with F := putM s.F star l } ∧ Stp W K w' K' := by
  refine h.onSto (P := fun e w' => ∃ v', e = .returned v' ∧ w'.ownsRow W.heap.size 9 1 v' (getM s.F star []).length (txV (getM s.F star []))) (F' := putM s.F star l) (H' := s.H) fun KS vb fb V G k1 k2 k3 => ?_
  have hlV : V.length = s.F.length := by rw [← k2, cont_length]
  refine (setArgs_any k1 v l ht hl (by omega)).mono ?_
  rintro e w' ⟨v', rfl, b0, u, K', b1, b2⟩
  refine ⟨⟨v', rfl, ?_⟩, K', _, _, b1, by rw [cont_put, k2], k3, b2⟩
  rw [← k2, cont_get V star (.slice none 0 0) []]
  exact b0
theorem get_rn (k : Txt) (h : Rn W K rb cb sb kb s) (hk : k.length ≤ maxLen) :
    Calls Tryz.prog 147 #[sP sb, str k] W fun e w' => ∃ v', e = .returned (.tuple #[v', .bool (hasM s.F k)]) ∧ w'.ownsRow W.heap.size 9 1 v' (getM s.F k []).length (txV (getM s.F k [])) ∧ Below W.heap.size W w' := by
  obtain ⟨KS, vb, fb, V, G, a1, a2, a3⟩ := h.store
  rw [← a2, cont_has, cont_get V k (.slice none 0 0) []]
  exact get_any a1 k hk
theorem fun_rn (k : Txt) (h : Rn W K rb cb sb kb s) (hk : k.length ≤ maxLen) :
    Calls Tryz.prog 109 #[fP sb, str k] W fun e w' => ∃ v', e = .returned (.tuple #[v', .bool (hasM s.H k)]) ∧ NdOwn w' W.heap.size v' (getM s.H k []) ∧ Below W.heap.size W w' := by
  obtain ⟨KS, vb, fb, V, G, a1, a2, a3⟩ := h.store
  rw [← a3, cont_has, cont_get G k (.slice none 0 0) []]
  exact fun_any a1 k hk
theorem xr_cases (ea : Nat → Addr) (x : Xr) : (x = .ok ∧ xrV ea x = .nilIface) ∨ (x ≠ .ok ∧ ∃ a, xrV ea x = errV a) := by
  cases x
  · exact .inl ⟨rfl, rfl⟩
  all_goals exact .inr ⟨by simp, _, rfl⟩
theorem execP_eq (s : Sh) (nm : Txt) (l : List Txt) (o : Option Rw) (ho : rowOf s.R nm l = o) (r : Sh × Xr)
    (hr : sayP { s with E := s.E ++ [⟨1, statOf o, nm, heardOf o s.hd, l⟩], hd := if readsB o then [] else s.hd } (outOf o s.hd) = r) : execP s nm l = (r.1, if r.2 = .ok then statOf o else 0, r.2) := by
  unfold execP
  simp only [ho, hr]
  obtain ⟨s1, x⟩ := r
  cases x <;> rfl
theorem outOf_small (hk : Okk s) (nm : Txt) (l : List Txt) : (outOf (rowOf s.R nm l) s.hd).length < 4294967296 := by
  have h3 := hk.hd
  cases ho : rowOf s.R nm l with
  | none => exact Nat.zero_lt_succ _
  | some r =>
    have h4 := (hk.Rn r (List.mem_of_find?_eq_some ho)).2
    unfold outOf
    split
    · rename_i e
      cases e
      split
      · rw [List.length_append]; omega
      · omega
    · exact Nat.zero_lt_succ _
set_option maxRecDepth 100000 in
set_option maxHeartbeats 4000000 in
theorem execS_any (nm : Txt) (l : List Txt) (va : Value) (hE : Ers W ea) (h : Rn W K rb cb sb kb s) (hk : Okk s) (ht : Tx W va l) (ho : Off W K va) (hl : l.length < 100000) :
    Calls Tryz.prog 113 #[rP rb, str nm, va] W (Done ea W K rb cb sb kb (execP s nm l)) := by
  have hsm := outOf_small hk nm l
  obtain ⟨o, hoo⟩ : ∃ o, rowOf s.R nm l = o := ⟨_, rfl⟩
  rw [hoo] at hsm
  obtain ⟨s1, hs1⟩ : ∃ s1 : Sh, { s with E := s.E ++ [⟨1, statOf o, nm, heardOf o s.hd, l⟩] } = s1 := ⟨_, rfl⟩
  obtain ⟨s2, hs2⟩ : ∃ s2 : Sh, { s with E := s.E ++ [⟨1, statOf o, nm, heardOf o s.hd, l⟩], hd := if readsB o then [] else s.hd } = s2 := ⟨_, rfl⟩
  have HX : Hid (Calls Tryz.prog 160 #[kP kb, str nm, str s.hd, va] W.drew fun e w' => e = .returned (.tuple #[str (outOf o s.hd), .int .i64 (statOf o), .bool o.isSome]) ∧ ∃ K', Rn w' K' rb cb sb kb s1 ∧ Stp W K w' K') := by
    rw [← hs1, ← hoo]
    refine Calls.mono (exec_rn nm l va h.drew hk (ht.below (Below.refl _ W).drew (Nat.le_refl _)) (by omega)) ?_
    rintro e w' ⟨h1, K', h2, h3⟩
    exact ⟨h1, K', h2, (stp_drew K W).trans h3⟩
  have HRD : Hid (∀ w1 K1, Rn w1 K1 rb cb sb kb s1 → Stp W K w1 K1 → Calls Tryz.prog 161 #[kP kb, str nm, va] w1 fun e w' => e = .returned (.bool (readsB o)) ∧ Below w1.heap.size w1 w') := fun w1 K1 h1 h2 => by
    have := reads_rn nm l va h1 (by rw [← hs1]; exact hk.R) (by rw [← hs1]; exact fun r hr => (hk.Rn r hr).1) (ho.tx ht h2) (by omega)
    rw [show s1.R = s.R by rw [← hs1], hoo] at this
    exact this
  have hw2 : Okw s2 := by
    rw [← hs2]
    have := hk.w
    exact ⟨this.D, by have := hk.E; show (s.E ++ _).length < _; rw [List.length_append]; simp; omega, this.dat, this.fl, this.ct⟩
  have HSY : Hid (∀ w1 K1, Rn w1 K1 rb cb sb kb s2 → Stp W K w1 K1 → Calls Tryz.prog 159 #[rP rb, str (outOf o s.hd)] w1 fun e w' => e = .returned (xrV ea (sayP s2 (outOf o s.hd)).2) ∧ ∃ K', Rn w' K' rb cb sb kb (sayP s2 (outOf o s.hd)).1 ∧ Stp W K w' K') := fun w1 K1 h1 h2 => by
    refine Calls.mono (say_any (outOf o s.hd) (hE.stp h h2) h1 hw2 hsm) ?_
    rintro e w' ⟨h3, K', h4, h5⟩
    exact ⟨h3, K', h4, h2.trans h5⟩
  have HSET : Hid (∀ w1 K1, Rn w1 K1 rb cb sb kb s1 → Stp W K w1 K1 → readsB o = true → Rn (w1.setCell ⟨rb, 7, none⟩ (.string ⟨#[]⟩)) K1 rb cb sb kb s2 ∧ Stp W K (w1.setCell ⟨rb, 7, none⟩ (.string ⟨#[]⟩)) K1) := fun w1 K1 h1 h2 h3 => by
    have h4 := h1.set 7 (str []) s2 (by rw [← hs1, ← hs2]; simp [rnC, h3]) (by rw [← hs1, ← hs2]) (by rw [← hs1, ← hs2]) (by rw [← hs1, ← hs2]) (by rw [← hs1, ← hs2]) (by rw [← hs1, ← hs2]) (by rw [← hs1, ← hs2])
    exact ⟨h4.1, h2.trans h4.2⟩
  have HSN : Hid (readsB o = false → s1 = s2) := fun h3 => by rw [← hs1, ← hs2, h3]; simp
  have HEQ : Hid (execP s nm l = ((sayP s2 (outOf o s.hd)).1, if (sayP s2 (outOf o s.hd)).2 = .ok then statOf o else 0, (sayP s2 (outOf o s.hd)).2)) := execP_eq s nm l o hoo _ (by rw [hs2])
  have HC1 : Hid (∀ w1 K1, Rn w1 K1 rb cb sb kb s1 → w1.cell? ⟨rb, 1, none⟩ = some (kP kb) ∧ w1.cell? ⟨rb, 7, none⟩ = some (str s.hd) ∧ w1.frozen? ⟨rb, 7, none⟩ = false) := fun w1 K1 h1 => ⟨h1.rc.cell 1, by have := h1.rc.cell 7; rw [← hs1] at this; exact this, h1.rc.frozen 7⟩
  have HCB : Hid (∀ w1 w2 K1, Rn w1 K1 rb cb sb kb s1 → Below w1.heap.size w1 w2 → Rn w2 K1 rb cb sb kb s1) := fun w1 w2 K1 h1 h2 => h1.below h2
  have c1 : W.cell? ⟨rb, 1, none⟩ = some (kP kb) := h.rc.cell 1
  have c7 : W.cell? ⟨rb, 7, none⟩ = some (str s.hd) := h.rc.cell 7
  rw [HEQ.out]
  obtain ⟨y, hy⟩ : ∃ y, sayP s2 (outOf o s.hd) = y := ⟨_, rfl⟩
  rw [hy] at HSY ⊢
  obtain ⟨adv, capv, rfl⟩ := ht.form
  obtain ⟨out, hout⟩ : ∃ out, outOf o s.hd = out := ⟨_, rfl⟩
  rw [hout] at HX HSY
  obtain ⟨sg, hsg⟩ : ∃ sg, o.isSome = sg := ⟨_, rfl⟩
  rw [hsg] at HX
  obtain ⟨rd, hrd⟩ : ∃ rd, readsB o = rd := ⟨_, rfl⟩
  rw [hrd] at HRD HSET HSN
  obtain ⟨stt, hstt⟩ : ∃ stt, statOf o = stt := ⟨_, rfl⟩
  rw [hstt] at HX ⊢
  obtain ⟨st', hst'⟩ : ∃ st', (if y.2 = .ok then stt else 0) = st' := ⟨_, rfl⟩
  rw [hst']
  have HIF : Hid ((y.2 = .ok → st' = stt) ∧ (y.2 ≠ .ok → st' = 0)) := ⟨fun h => by rw [← hst', if_pos h], fun h => by rw [← hst', if_neg h]⟩
  clear hst'
  obtain ⟨hdv, hhd⟩ : ∃ hdv, s.hd = hdv := ⟨_, rfl⟩
  rw [hhd] at HX HC1 c7
  clear h hE hk ht ho hoo hs1 hs2 hw2 HEQ hy hout hsg hrd hstt hhd hsm
  go_enter Tryz.func113, Tryz.ntmps113
  go_wp2_with fail
  go_region_held3 (fun w' => w'.cell? ⟨rb, 1, none⟩ = some (kP kb) ∧ w'.cell? ⟨rb, 7, none⟩ = some (str hdv)) (go_keep)
    (first | (go_at_call 160; refine Calls.mono HX.out ?_; rintro e w1 ⟨rfl, K1, HR1, HS1⟩; obtain ⟨d1, d7, f7⟩ := HC1.out _ _ HR1))
  go_wp2_with fail
  refine Calls.mono (HRD.out _ _ HR1 HS1) ?_
  rintro e w2 ⟨rfl, hb2⟩
  have HR2 : Hid _ := HCB.out _ _ _ HR1 hb2
  have HS2 : Hid (Stp W K w2 K1) := HS1.trans (Stp.ofBelow hb2)
  obtain ⟨g1, g7, gf7⟩ := HC1.out _ _ HR2.out
  clear HR1 HS1 hb2
  cases rd with
  | true =>
    obtain ⟨hr3, hs3⟩ := HSET.out _ _ HR2.out HS2.out rfl
    have HR3 : Hid _ := hr3
    have HS3 : Hid _ := hs3
    clear hr3 hs3
    go_wp2_with fail
    refine Calls.mono (HSY.out _ _ HR3.out HS3.out) ?_
    rintro e w4 ⟨rfl, K4, HR4, HS4⟩
    rcases xr_cases ea y.2 with ⟨hy1, hy2⟩ | ⟨hy1, a, hy2⟩
    · rw [hy2]
      go_wp2_with fail
      go_ret2
      refine ⟨?_, Rb.of HR4 HS4⟩
      rw [hy2, HIF.out.1 hy1]
      rfl
    · rw [hy2]
      go_wp2_with fail
      go_ret2
      refine ⟨?_, Rb.of HR4 HS4⟩
      rw [hy2, HIF.out.2 hy1]
      rfl
  | false =>
    have e12 := HSN.out rfl
    have HR3 : Hid _ := HR2
    rw [e12] at HR3
    go_wp2_with fail
    refine Calls.mono (HSY.out _ _ HR3.out HS2.out) ?_
    rintro e w4 ⟨rfl, K4, HR4, HS4⟩
    rcases xr_cases ea y.2 with ⟨hy1, hy2⟩ | ⟨hy1, a, hy2⟩
    · rw [hy2]
      go_wp2_with fail
      go_ret2
      refine ⟨?_, Rb.of HR4 HS4⟩
      rw [hy2, HIF.out.1 hy1]
      rfl
    · rw [hy2]
      go_wp2_with fail
      go_ret2
      refine ⟨?_, Rb.of HR4 HS4⟩
      rw [hy2, HIF.out.2 hy1]
      rfl
end Go.Proofs.YtfafhjglcaikoaaGreatDoor
