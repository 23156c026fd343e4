/- What a node alone may be. -/
import Derived.Test.YtfafhjglcaikoaaGreatDoorH8
import Derived.Test.YtfafhjglcaikoaaGreatDoorH7
import Derived.Test.YtfafhjglcaikoaaGreatDoorH1
import Derived.WalkKit
import Derived.Test.YtfafhjglcaikoaaGreatDoorH2
import Derived.Test.YtfafhjglcaikoaaGreatDoorH5
import Derived.Test.YtfafhjglcaikoaaGreatDoorProg
import Derived.WalkSpells
import Derived.WalkLawsBesides
import Derived.Laws.ResultCell
import Derived.Laws.Rows
import Derived.Maps.AppendAt
import Derived.Maps.OwnSet
import Derived.Below
import Derived.RangeFuncRecord
import Derived.Carry
import Derived.OwnWalk
import Derived.Laws.AppendOwnNone
/-! A store by what it holds. -/
namespace Go.Proofs.YtfafhjglcaikoaaGreatDoor
open Go.RowKit

abbrev Vps := List (Txt × List Txt)
abbrev Fps := List (Txt × List Nd)
variable {W W' : World} {B sb vb fb : Nat} {F : Vps} {H : Fps}
end Go.Proofs.YtfafhjglcaikoaaGreatDoor
/-! Programs as plain lists of nodes: which may be. -/
namespace Go.Proofs.YtfafhjglcaikoaaGreatDoor
open Go.RowKit

/-- What is asked of a node. -/
structure Ak where
  fin : Int
  dep : Int
  last : Bool
  word : Bool

def startB (c : Int) : Bool := decide ((97 ≤ c ∧ c ≤ 122) ∨ (65 ≤ c ∧ c ≤ 90) ∨ c = 95)
def digitB (c : Int) : Bool := decide (48 ≤ c ∧ c ≤ 57)
def contB (c : Int) : Bool := startB c || digitB c
def cont8 (b : UInt8) : Bool := contB (b.toNat : Int)
def nameB (l : Txt) : Bool := match l with
  | [] => false
  | b :: _ => decide (l.length ≤ 20) && startB (b.toNat : Int) && l.all cont8
/-- Does no taker stand at its end that takes no life? -/
def closedL (l : List UInt8) : Bool := decide (((l.reverse.takeWhile (· == 92)).length) % 2 = 0)

def wordK (k : Int) : Bool := decide (1 ≤ k) && decide (k ≤ 12)
def cmdK (k : Int) : Bool := decide (20 ≤ k) && decide (k ≤ 37)
def isOneB (k : Int) (word : Bool) : Bool := if word then wordK k else cmdK k
def numB (kind n : Int) : Bool :=
  if kind = 1 then decide (n = 0) || decide (n = 1)
  else if kind = 11 then decide (1 ≤ n) && decide (n ≤ 99)
  else if kind = 33 then decide (1 ≤ n) && decide (n ≤ 3)
  else decide (n = 0)
def strB (kind n : Int) (s : Txt) : Bool :=
  if kind = 1 then decide (s.length ≤ 2000) && (decide (n = 0) || closedL s)
  else if kind = 2 then s == [42] || nameB s
  else if kind = 22 ∨ kind = 29 ∨ kind = 35 ∨ kind = 31 then nameB s
  else s == []
def cntB (kind k : Int) : Bool :=
  if kind = 1 ∨ kind = 2 ∨ kind = 20 then decide (k = 0)
  else if kind = 3 then decide (0 ≤ k)
  else if kind = 4 ∨ kind = 21 ∨ kind = 37 then decide (1 ≤ k)
  else if kind = 23 ∨ kind = 32 then decide (2 ≤ k)
  else if kind = 24 then decide (k = 3)
  else if kind = 25 ∨ kind = 26 ∨ kind = 28 ∨ kind = 29 ∨ kind = 35 ∨ kind = 33 ∨ kind = 34 then decide (k = 2)
  else if kind = 30 then decide (1 ≤ k) && decide (k % 2 = 1)
  else decide (k = 1)
def wordAtB (kind K k : Int) : Bool :=
  if kind = 21 ∨ kind = 22 ∨ kind = 36 then true
  else if kind = 29 ∨ kind = 35 ∨ kind = 33 ∨ kind = 34 then decide (k = 0)
  else if kind = 30 then decide (k = 0) || decide (k % 2 = 1)
  else if kind = 37 then decide (k < K - 1)
  else wordK kind && decide (kind ≠ 12)
def sizB (k size room : Int) (last : Bool) : Bool :=
  if k = 0 ∧ size ≠ 1 then false
  else if last then decide (size = room)
  else decide (1 ≤ size) && decide (size ≤ room)
def mayB (x : Nd) (a : Ak) (i : Nat) : Bool :=
  isOneB x.kind a.word && numB x.kind x.n && strB x.kind x.n x.s && cntB x.kind x.k && sizB x.k x.size (a.fin - i) a.last

/-- What a node asks of its children, from the k-th on, that begins at a place. -/
def askG (l : List Nd) (x : Nd) (dep : Int) (fin : Nat) : Nat → Nat → Nat → List Ak → Bool × List Ak
  | 0, _, _, A => (true, A)
  | f + 1, k, at_, A =>
    if (k : Int) < x.k then
      if fin ≤ at_ then (false, A)
      else match l[at_]? with
        | none => (true, A)
        | some y =>
          if y.size < 1 then (true, A.set at_ ⟨fin, dep + 1, decide ((k : Int) = x.k - 1), wordAtB x.kind x.k k⟩)
          else askG l x dep fin f (k + 1) (at_ + (min y.size ((fin - at_ : Nat) : Int)).toNat) (A.set at_ ⟨fin, dep + 1, decide ((k : Int) = x.k - 1), wordAtB x.kind x.k k⟩)
    else (true, A)
inductive Rs where
  | fine
  | many
  | node (i : Nat)
  | nest (i : Nat)
def goC (l : List Nd) : Nat → Nat → List Ak → Rs
  | 0, _, _ => .fine
  | f + 1, i, A => match l[i]?, A[i]? with
    | some x, some a =>
      if mayB x a i then
        if (askG l x a.dep (i + x.size.toNat) (i + x.size.toNat + 1) 0 (i + 1) A).1 then
          if 30 < a.dep then .nest i else goC l f (i + 1) (askG l x a.dep (i + x.size.toNat) (i + x.size.toNat + 1) 0 (i + 1) A).2
        else .node i
      else .node i
    | _, _ => .fine
def ak0 : Ak := ⟨0, 0, false, false⟩
def aks (n : Nat) : List Ak := ⟨n, 1, true, false⟩ :: List.replicate (n - 1) ak0
def checkL (l : List Nd) : Rs := if l.length = 0 ∨ 3000 < l.length then .many else goC l l.length 0 (aks l.length)

def litN (s : Txt) : Nd := ⟨1, 0, 0, 1, s⟩
def newN (kind n : Int) (s : Txt) (kids : List (List Nd)) : List Nd := ⟨kind, n, kids.length, kids.flatten.length + 1, s⟩ :: kids.flatten

/-! ### nodes without children -/
theorem aks_len (n : Nat) (h : 0 < n) : (aks n).length = n := by simp [aks]; omega
end Go.Proofs.YtfafhjglcaikoaaGreatDoor
/-! Nodes in memory. -/
namespace Go.Proofs.YtfafhjglcaikoaaGreatDoor
open Go.RowKit

/-! ### blocks -/
/-! ### nodes -/
/-- Lists of nodes in memory. -/
def KdAt (W : World) (v : Value) (K : List (Value × List Nd)) : Prop := RowAtS W v 1 (K.map fun p => [p.1]) ∧ ∀ p ∈ K, NdAt W p.1 p.2
theorem KdAt.below {W W' : World} {v : Value} {K : List (Value × List Nd)} {B : Nat} (h : KdAt W v K) (hb : Below B W W') (hB : W.heap.size ≤ B) : KdAt W' v K := ⟨RowAtS.below h.1 hb hB, fun p hp => (h.2 p hp).below hb hB⟩
theorem KdAt.form {W : World} {v : Value} {K : List (Value × List Nd)} (h : KdAt W v K) : ∃ ad cap, v = .slice ad K.length cap := by
  obtain ⟨ad, cap, hv⟩ := RowAtS.form h.1
  exact ⟨ad, cap, by rw [hv]; simp⟩
theorem KdAt.nil (W : World) : KdAt W (.slice none 0 0) [] := ⟨.inl ⟨rfl, .inl rfl⟩, fun p hp => by simp at hp⟩
theorem KdAt.at {W : World} {v : Value} {K : List (Value × List Nd)} (h : KdAt W v K) {j : Nat} {p : Value × List Nd} (hj : K[j]? = some p) : ∃ g o cap, v = .slice (some ⟨g, o, none⟩) K.length cap ∧ g < W.heap.size ∧ W.cell? ⟨g, o + j, none⟩ = some p.1 ∧ NdAt W p.1 p.2 := by
  rcases h.1 with ⟨h0, _⟩ | ⟨g, o, cap, h1, h2, h3, h4⟩
  · have : K = [] := by simpa using h0
    rw [this] at hj
    simp at hj
  · have hc := h4 j [p.1] (by rw [List.getElem?_map, hj]; rfl) 0 p.1 rfl
    rw [Nat.mul_one, Nat.add_zero] at hc
    exact ⟨g, o, cap, by simpa using h1, h3, hc, h.2 p (List.mem_of_getElem? hj)⟩
theorem info28 : (Tryz.prog.info? 40).map (fun i => (i.zero, i.size, i.bytes)) = some (some (.agg #[.int .i64 0, .int .i64 0, .int .i64 0, .int .i64 0, .string ⟨#[]⟩]), 5, 48) := by kernel_rfl
def kidL (K : List (Value × List Nd)) : List Nd := (K.map Prod.snd).flatten
theorem kidL_snoc (K : List (Value × List Nd)) (k : Nat) (p : Value × List Nd) (h : K[k]? = some p) : kidL (K.take (k + 1)) = kidL (K.take k) ++ p.2 := by
  unfold kidL
  rw [List.take_add_one, h]
  simp
theorem kidL_le (K : List (Value × List Nd)) (k : Nat) : (kidL (K.take k)).length ≤ (kidL K).length := by
  have h : kidL K = kidL (K.take k) ++ kidL (K.drop k) := by
    unfold kidL
    rw [← List.flatten_append, ← List.map_append, List.take_append_drop]
  rw [h, List.length_append]
  omega
end Go.Proofs.YtfafhjglcaikoaaGreatDoor
namespace Go.Proofs.YtfafhjglcaikoaaGreatDoor
open Go.RowKit
attribute [local go_sem] Oper.semAt_some

abbrev ndV (x : Nd) : Value := .agg #[.int .i64 x.kind, .int .i64 x.n, .int .i64 x.k, .int .i64 x.size, str x.s]
theorem ret_b {a b : Bool} (h : a = true ↔ b = true) : (Ending.returned (.bool a)) = .returned (.bool b) := by rw [Bool.eq_iff_iff.2 h]

theorem word_any (k : Int) (w : World) : Calls Tryz.prog 136 #[.int .i64 k] w fun e w' => e = .returned (.bool (wordK k)) ∧ w' = w := by
  by_cases h : 1 ≤ k
  all_goals
    go_enter Tryz.func136, Tryz.ntmps136
    go_wp2_with fail
    go_ret
    exact ⟨ret_b (by simp [wordK]; omega), rfl⟩
theorem command_any (k : Int) (w : World) : Calls Tryz.prog 137 #[.int .i64 k] w fun e w' => e = .returned (.bool (cmdK k)) ∧ w' = w := by
  by_cases h : 20 ≤ k
  all_goals
    go_enter Tryz.func137, Tryz.ntmps137
    go_wp2_with fail
    go_ret
    exact ⟨ret_b (by simp [cmdK]; omega), rfl⟩
theorem isOne_any (k : Int) (b : Bool) (w : World) : Calls Tryz.prog 92 #[.int .i64 k, .bool b] w fun e w' => e = .returned (.bool (isOneB k b)) ∧ w' = w := by
  unfold isOneB
  cases b with
  | true =>
    go_enter Tryz.func92, Tryz.ntmps92
    go_wp2_with fail
    refine (word_any _ _).mono ?_
    rintro e w1 ⟨rfl, rfl⟩
    go_wp2_with fail
    go_ret
    exact ⟨rfl, rfl⟩
  | false =>
    go_enter Tryz.func92, Tryz.ntmps92
    go_wp2_with fail
    refine (command_any _ _).mono ?_
    rintro e w1 ⟨rfl, rfl⟩
    go_wp2_with fail
    go_ret
    exact ⟨rfl, rfl⟩
theorem number_any (x : Nd) (w : World) : Calls Tryz.prog 93 #[ndV x] w fun e w' => e = .returned (.bool (numB x.kind x.n)) ∧ Below w.heap.size w w' := by
  obtain ⟨kd, n, k, sz, s⟩ := x
  by_cases h1 : kd = 1
  · subst h1
    by_cases hn : n = 0
    all_goals
      go_enter Tryz.func93, Tryz.ntmps93
      go_wp2_with fail
      go_ret
      exact ⟨ret_b (by simp [numB, hn]), below_new _ _⟩
  by_cases h2 : kd = 11
  · subst h2
    by_cases hn : 1 ≤ n
    all_goals
      go_enter Tryz.func93, Tryz.ntmps93
      go_wp2_with fail
      go_ret
      exact ⟨ret_b (by simp [numB]; omega), below_new _ _⟩
  by_cases h3 : kd = 33
  · subst h3
    by_cases hn : 1 ≤ n
    all_goals
      go_enter Tryz.func93, Tryz.ntmps93
      go_wp2_with fail
      go_ret
      exact ⟨ret_b (by simp [numB]; omega), below_new _ _⟩
  go_enter Tryz.func93, Tryz.ntmps93
  go_wp2_with fail
  go_ret
  exact ⟨ret_b (by simp [numB, h1, h2, h3]), below_new _ _⟩
theorem count_any (x : Nd) (w : World) : Calls Tryz.prog 95 #[ndV x] w fun e w' => e = .returned (.bool (cntB x.kind x.k)) ∧ Below w.heap.size w w' := by
  obtain ⟨kd, n, k, sz, s⟩ := x
  by_cases h1 : kd = 1 ∨ kd = 2 ∨ kd = 20
  · rcases h1 with rfl | rfl | rfl
    all_goals
      go_enter Tryz.func95, Tryz.ntmps95
      go_wp2_with fail
      go_ret
      exact ⟨ret_b (by simp [cntB]), below_new _ _⟩
  by_cases h2 : kd = 3 ∨ kd = 4 ∨ kd = 21 ∨ kd = 37 ∨ kd = 23 ∨ kd = 32 ∨ kd = 24
  · rcases h2 with rfl | rfl | rfl | rfl | rfl | rfl | rfl
    all_goals
      go_enter Tryz.func95, Tryz.ntmps95
      go_wp2_with fail
      go_ret
      exact ⟨ret_b (by simp [cntB]), below_new _ _⟩
  by_cases h3 : kd = 25 ∨ kd = 26 ∨ kd = 28 ∨ kd = 29 ∨ kd = 35 ∨ kd = 33 ∨ kd = 34
  · rcases h3 with rfl | rfl | rfl | rfl | rfl | rfl | rfl
    all_goals
      go_enter Tryz.func95, Tryz.ntmps95
      go_wp2_with fail
      go_ret
      exact ⟨ret_b (by simp [cntB]), below_new _ _⟩
  by_cases h4 : kd = 30
  · subst h4
    by_cases hk : 1 ≤ k
    all_goals
      go_enter Tryz.func95, Tryz.ntmps95
      go_wp2_with fail
      go_ret
      exact ⟨ret_b (by simp [cntB]; omega), below_new _ _⟩
  simp only [not_or] at h1 h2 h3
  obtain ⟨a1, a2, a3⟩ := h1
  obtain ⟨b1, b2, b3, b4, b5, b6, b7⟩ := h2
  obtain ⟨c1, c2, c3, c4, c5, c6, c7⟩ := h3
  go_enter Tryz.func95, Tryz.ntmps95
  go_wp2_with fail
  go_ret
  exact ⟨ret_b (by simp [cntB, a1, a2, a3, b1, b2, b3, b4, b5, b6, b7, c1, c2, c3, c4, c5, c6, c7, h4]), below_new _ _⟩
theorem size_any (x : Nd) (room : Int) (last : Bool) (w : World) : Calls Tryz.prog 96 #[ndV x, .int .i64 room, .bool last] w fun e w' => e = .returned (.bool (sizB x.k x.size room last)) ∧ Below w.heap.size w w' := by
  obtain ⟨kd, n, k, sz, s⟩ := x
  by_cases hk : k = 0
  · by_cases hs : sz = 1
    · cases last with
      | true =>
        go_enter Tryz.func96, Tryz.ntmps96
        go_wp2_with fail
        go_ret
        exact ⟨ret_b (by simp [sizB, hs]), below_new _ _⟩
      | false =>
        go_enter Tryz.func96, Tryz.ntmps96
        go_wp2_with fail
        go_ret
        exact ⟨ret_b (by simp [sizB, hs]), below_new _ _⟩
    · go_enter Tryz.func96, Tryz.ntmps96
      go_wp2_with fail
      go_ret
      exact ⟨ret_b (by simp [sizB, hs, hk]), below_new _ _⟩
  · cases last with
    | true =>
      go_enter Tryz.func96, Tryz.ntmps96
      go_wp2_with fail
      go_ret
      exact ⟨ret_b (by simp [sizB, hk]), below_new _ _⟩
    | false =>
      by_cases h1 : 1 ≤ sz
      all_goals
        go_enter Tryz.func96, Tryz.ntmps96
        go_wp2_with fail
        go_ret
        exact ⟨ret_b (by simp [sizB, hk]; omega), below_new _ _⟩
theorem wordAt_any (x : Nd) (K : Int) (hK : x.k = K) (hK1 : -9223372036854775807 ≤ K) (hK2 : K ≤ 9223372036854775807) (k : Nat) (w : World) : Calls Tryz.prog 97 #[ndV x, .int .i64 k] w fun e w' => e = .returned (.bool (wordAtB x.kind K k)) ∧ Below w.heap.size w w' := by
  obtain ⟨kd, n, k', sz, s⟩ := x
  simp only at hK
  subst hK
  by_cases h1 : kd = 21 ∨ kd = 22 ∨ kd = 36
  · rcases h1 with rfl | rfl | rfl
    all_goals
      go_enter Tryz.func97, Tryz.ntmps97
      go_wp2_with fail
      go_ret
      exact ⟨ret_b (by simp [wordAtB]), below_new _ _⟩
  by_cases h2 : kd = 29 ∨ kd = 35 ∨ kd = 33 ∨ kd = 34
  · rcases h2 with rfl | rfl | rfl | rfl
    all_goals
      go_enter Tryz.func97, Tryz.ntmps97
      go_wp2_with fail
      go_ret
      exact ⟨ret_b (by simp [wordAtB]), below_new _ _⟩
  by_cases h3 : kd = 30
  · subst h3
    by_cases hk0 : (k : Int) = 0
    all_goals
      go_enter Tryz.func97, Tryz.ntmps97
      go_wp2_with fail
      go_ret
      exact ⟨ret_b (by simp [wordAtB, hk0]), below_new _ _⟩
  by_cases h4 : kd = 37
  · subst h4
    go_enter Tryz.func97, Tryz.ntmps97
    go_wp2_with fail
    go_ret
    exact ⟨ret_b (by simp [wordAtB]), below_new _ _⟩
  simp only [not_or] at h1 h2
  obtain ⟨a1, a2, a3⟩ := h1
  obtain ⟨b1, b2, b3, b4⟩ := h2
  have e : wordAtB kd k' k = (wordK kd && decide (kd ≠ 12)) := by simp [wordAtB, a1, a2, a3, b1, b2, b3, b4, h3, h4]
  rw [e]
  cases hw : wordK kd with
  | true =>
    go_enter Tryz.func97, Tryz.ntmps97
    go_wp2_with fail
    refine (word_any _ _).mono ?_
    rintro e w1 ⟨rfl, rfl⟩
    rw [hw]
    go_wp2_with fail
    go_ret
    exact ⟨ret_b (by simp), below_new _ _⟩
  | false =>
    go_enter Tryz.func97, Tryz.ntmps97
    go_wp2_with fail
    refine (word_any _ _).mono ?_
    rintro e w1 ⟨rfl, rfl⟩
    rw [hw]
    go_wp2_with fail
    go_ret
    exact ⟨rfl, below_new _ _⟩
end Go.Proofs.YtfafhjglcaikoaaGreatDoor
