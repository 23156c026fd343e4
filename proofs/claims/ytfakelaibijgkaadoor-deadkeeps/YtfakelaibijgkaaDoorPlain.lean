/- Programs as plain lists of nodes: which may be. -/
import Derived.WalkKit
namespace Go.Proofs.YtfakelaibijgkaaDoor
open Go.RowKit

abbrev Txt := List UInt8
structure Nd where
  kind : Int
  n : Int
  k : Int
  size : Int
  s : Txt
/-- What is asked of a node. -/
structure Ak where
  fin : Int
  dep : Int
  last : Bool
  word : Bool

def startB (c : Int) : Bool := decide ((97 ≤ c ∧ c ≤ 122) ∨ (65 ≤ c ∧ c ≤ 90) ∨ c = 95)
def digitB (c : Int) : Bool := decide (48 ≤ c ∧ c ≤ 57)
def contB (c : Int) : Bool := startB c || digitB c
def cont8 (b : UInt8) : Bool := contB (b.toNat : Int)
def nameB (l : Txt) : Bool := match l with
  | [] => false
  | b :: _ => decide (l.length ≤ 20) && startB (b.toNat : Int) && l.all cont8
/-- Does no taker stand at its end that takes no life? -/
def closedL (l : List UInt8) : Bool := decide (((l.reverse.takeWhile (· == 92)).length) % 2 = 0)

def wordK (k : Int) : Bool := decide (1 ≤ k) && decide (k ≤ 12)
def cmdK (k : Int) : Bool := decide (20 ≤ k) && decide (k ≤ 37)
def isOneB (k : Int) (word : Bool) : Bool := if word then wordK k else cmdK k
def numB (kind n : Int) : Bool :=
  if kind = 1 then decide (n = 0) || decide (n = 1)
  else if kind = 11 then decide (1 ≤ n) && decide (n ≤ 99)
  else if kind = 33 then decide (1 ≤ n) && decide (n ≤ 3)
  else decide (n = 0)
def strB (kind n : Int) (s : Txt) : Bool :=
  if kind = 1 then decide (s.length ≤ 2000) && (decide (n = 0) || closedL s)
  else if kind = 2 then s == [42] || nameB s
  else if kind = 22 ∨ kind = 29 ∨ kind = 35 ∨ kind = 31 then nameB s
  else s == []
def cntB (kind k : Int) : Bool :=
  if kind = 1 ∨ kind = 2 ∨ kind = 20 then decide (k = 0)
  else if kind = 3 then decide (0 ≤ k)
  else if kind = 4 ∨ kind = 21 ∨ kind = 37 then decide (1 ≤ k)
  else if kind = 23 ∨ kind = 32 then decide (2 ≤ k)
  else if kind = 24 then decide (k = 3)
  else if kind = 25 ∨ kind = 26 ∨ kind = 28 ∨ kind = 29 ∨ kind = 35 ∨ kind = 33 ∨ kind = 34 then decide (k = 2)
  else if kind = 30 then decide (1 ≤ k) && decide (k % 2 = 1)
  else decide (k = 1)
def wordAtB (kind K k : Int) : Bool :=
  if kind = 21 ∨ kind = 22 ∨ kind = 36 then true
  else if kind = 29 ∨ kind = 35 ∨ kind = 33 ∨ kind = 34 then decide (k = 0)
  else if kind = 30 then decide (k = 0) || decide (k % 2 = 1)
  else if kind = 37 then decide (k < K - 1)
  else wordK kind && decide (kind ≠ 12)
def sizB (k size room : Int) (last : Bool) : Bool :=
  if k = 0 ∧ size ≠ 1 then false
  else if last then decide (size = room)
  else decide (1 ≤ size) && decide (size ≤ room)
def mayB (x : Nd) (a : Ak) (i : Nat) : Bool :=
  isOneB x.kind a.word && numB x.kind x.n && strB x.kind x.n x.s && cntB x.kind x.k && sizB x.k x.size (a.fin - i) a.last

/-- What a node asks of its children, from the k-th on, that begins at a place. -/
def askG (l : List Nd) (x : Nd) (dep : Int) (fin : Nat) : Nat → Nat → Nat → List Ak → Bool × List Ak
  | 0, _, _, A => (true, A)
  | f + 1, k, at_, A =>
    if (k : Int) < x.k then
      if fin ≤ at_ then (false, A)
      else match l[at_]? with
        | none => (true, A)
        | some y =>
          if y.size < 1 then (true, A.set at_ ⟨fin, dep + 1, decide ((k : Int) = x.k - 1), wordAtB x.kind x.k k⟩)
          else askG l x dep fin f (k + 1) (at_ + (min y.size ((fin - at_ : Nat) : Int)).toNat) (A.set at_ ⟨fin, dep + 1, decide ((k : Int) = x.k - 1), wordAtB x.kind x.k k⟩)
    else (true, A)
inductive Rs where
  | fine
  | many
  | node (i : Nat)
  | nest (i : Nat)
def goC (l : List Nd) : Nat → Nat → List Ak → Rs
  | 0, _, _ => .fine
  | f + 1, i, A => match l[i]?, A[i]? with
    | some x, some a =>
      if mayB x a i then
        if (askG l x a.dep (i + x.size.toNat) (i + x.size.toNat + 1) 0 (i + 1) A).1 then
          if 30 < a.dep then .nest i else goC l f (i + 1) (askG l x a.dep (i + x.size.toNat) (i + x.size.toNat + 1) 0 (i + 1) A).2
        else .node i
      else .node i
    | _, _ => .fine
def ak0 : Ak := ⟨0, 0, false, false⟩
def aks (n : Nat) : List Ak := ⟨n, 1, true, false⟩ :: List.replicate (n - 1) ak0
def checkL (l : List Nd) : Rs := if l.length = 0 ∨ 3000 < l.length then .many else goC l l.length 0 (aks l.length)

def nopN : Nd := ⟨20, 0, 0, 1, []⟩
def litN (s : Txt) : Nd := ⟨1, 0, 0, 1, s⟩
def newN (kind n : Int) (s : Txt) (kids : List (List Nd)) : List Nd := ⟨kind, n, kids.length, kids.flatten.length + 1, s⟩ :: kids.flatten

theorem first_one : checkL (newN 21 0 [] [[litN [101, 99, 104, 111]], [litN [97]]]) = .fine := by rfl
theorem first_two : checkL (newN 23 0 [] [[nopN]]) = .node 0 := by rfl

/-! ### nodes without children -/
theorem askG_none (l : List Nd) (x : Nd) (dep : Int) (fin f at_ : Nat) (A : List Ak) (hx : x.k = 0) : askG l x dep fin f 0 at_ A = (true, A) := by
  cases f with
  | zero => rfl
  | succ f => unfold askG; rw [if_neg (by rw [hx]; simp)]
theorem goC_leaf (l : List Nd) (f i : Nat) (A : List Ak) (y : Nd) (a : Ak) (hy : l[i]? = some y) (ha : A[i]? = some a) (hk : y.k = 0) :
    goC l (f + 1) i A = if mayB y a i then (if 30 < a.dep then .nest i else goC l f (i + 1) A) else .node i := by
  rw [goC, hy, ha]
  simp only [askG_none _ _ _ _ _ _ _ hk, if_true]
/-- Leaves that may be, to the end. -/
theorem goC_leaves (l : List Nd) (A : List Ak) : ∀ (f i : Nat), (∀ j, i ≤ j → j < i + f → ∃ y a, l[j]? = some y ∧ A[j]? = some a ∧ y.k = 0 ∧ a.dep ≤ 30 ∧ mayB y a j = true) → goC l f i A = .fine
  | 0, _, _ => rfl
  | f + 1, i, h => by
    obtain ⟨y, a, hy, ha, hk, hd, hm⟩ := h i (by omega) (by omega)
    rw [goC_leaf l f i A y a hy ha hk, if_pos hm, if_neg (by omega)]
    exact goC_leaves l A f (i + 1) (fun j h1 h2 => h j (by omega) (by omega))
theorem goC_leaves_not (l : List Nd) (A : List Ak) : ∀ (f i : Nat), (∀ j, i ≤ j → j < i + f → ∃ y a, l[j]? = some y ∧ A[j]? = some a ∧ y.k = 0) → (∃ j y a, i ≤ j ∧ j < i + f ∧ l[j]? = some y ∧ A[j]? = some a ∧ mayB y a j = false) → goC l f i A ≠ .fine
  | 0, i, _, ⟨j, _, _, h1, h2, _⟩ => by omega
  | f + 1, i, h, hf => by
    obtain ⟨y, a, hy, ha, hk⟩ := h i (by omega) (by omega)
    rw [goC_leaf l f i A y a hy ha hk]
    by_cases hm : mayB y a i = true
    · rw [if_pos hm]
      by_cases hd : 30 < a.dep
      · rw [if_pos hd]; exact fun h => by cases h
      · rw [if_neg hd]
        obtain ⟨j, y', a', h1, h2, h3, h4, h5⟩ := hf
        refine goC_leaves_not l A f (i + 1) (fun j h1 h2 => h j (by omega) (by omega)) ⟨j, y', a', ?_, by omega, h3, h4, h5⟩
        rcases Nat.lt_or_ge i j with h6 | h6
        · exact h6
        · obtain rfl : j = i := by omega
          rw [hy] at h3; cases h3; rw [ha] at h4; cases h4
          rw [hm] at h5; cases h5
    · rw [if_neg hm]; exact fun h => by cases h
/-- Children of one node each. -/
theorem askG_flat (l : List Nd) (x : Nd) (dep : Int) (fin : Nat) : ∀ (m f k at_ : Nat) (A : List Ak), x.k = (k + m : Nat) → fin = at_ + m → m < f → (∀ j, at_ ≤ j → j < fin → ∃ y, l[j]? = some y ∧ y.size = 1) → A.length = fin →
    (askG l x dep fin f k at_ A).1 = true ∧ ∀ j, (askG l x dep fin f k at_ A).2[j]? = if at_ ≤ j ∧ j < fin then some ⟨fin, dep + 1, decide (((j - at_ + k : Nat) : Int) = x.k - 1), wordAtB x.kind x.k (j - at_ + k : Nat)⟩ else A[j]?
  | 0, f + 1, k, at_, A, hx, hfin, hf, hl, hA => by
    have e : askG l x dep fin (f + 1) k at_ A = (true, A) := by unfold askG; rw [if_neg (by rw [hx]; simp)]
    rw [e]
    exact ⟨rfl, fun j => by rw [if_neg (by omega)]⟩
  | m + 1, f + 1, k, at_, A, hx, hfin, hf, hl, hA => by
    obtain ⟨y, hy, hs⟩ := hl at_ (Nat.le_refl _) (by omega)
    have e : askG l x dep fin (f + 1) k at_ A = askG l x dep fin f (k + 1) (at_ + 1) (A.set at_ ⟨fin, dep + 1, decide ((k : Int) = x.k - 1), wordAtB x.kind x.k k⟩) := by
      rw [askG, if_pos (by rw [hx]; omega), if_neg (by omega), hy]
      simp only [hs]
      rw [if_neg (by decide)]
      have : (min (1 : Int) ((fin - at_ : Nat) : Int)).toNat = 1 := by
        have : (1 : Int) ≤ ((fin - at_ : Nat) : Int) := by omega
        rw [Int.min_eq_left this]; rfl
      rw [this]
    have ih := askG_flat l x dep fin m f (k + 1) (at_ + 1) (A.set at_ ⟨fin, dep + 1, decide ((k : Int) = x.k - 1), wordAtB x.kind x.k k⟩) (by rw [hx]; omega) (by omega) (by omega) (fun j h1 h2 => hl j (by omega) h2) (by simp [hA])
    rw [e]
    refine ⟨ih.1, fun j => ?_⟩
    rw [ih.2 j]
    by_cases hj : at_ ≤ j ∧ j < fin
    · rw [if_pos hj]
      by_cases hj2 : at_ + 1 ≤ j ∧ j < fin
      · rw [if_pos hj2]
        have : j - (at_ + 1) + (k + 1) = j - at_ + k := by omega
        rw [this]
      · obtain rfl : j = at_ := by omega
        rw [if_neg hj2, List.getElem?_set_self (by omega)]
        simp
    · rw [if_neg hj, if_neg (by omega)]
      rw [List.getElem?_set_ne (by omega)]
theorem aks_len (n : Nat) (h : 0 < n) : (aks n).length = n := by simp [aks]; omega
theorem aks_zero (n : Nat) : (aks n)[0]? = some ⟨n, 1, true, false⟩ := rfl
/-- A node whose children are one node each. -/
theorem check_flat (x : Nd) (ys : List Nd) (hx : x.k = ys.length) (hs : x.size = (ys.length + 1 : Nat)) (hys : ∀ y ∈ ys, y.k = 0 ∧ y.size = 1) (hn : ys.length + 1 ≤ 3000) :
    checkL (x :: ys) = .fine ↔ mayB x ⟨(ys.length + 1 : Nat), 1, true, false⟩ 0 = true ∧ ∀ (j : Nat) (y : Nd), ys[j]? = some y → mayB y ⟨(ys.length + 1 : Nat), 2, decide ((j : Int) = ys.length - 1), wordAtB x.kind ys.length j⟩ (j + 1) = true := by
  unfold checkL
  rw [if_neg (by simp; omega)]
  show goC (x :: ys) (ys.length + 1) 0 (aks (ys.length + 1)) = .fine ↔ _
  have hAl := aks_len (ys.length + 1) (by omega)
  rw [goC, aks_zero]
  simp only [List.getElem?_cons_zero]
  have hz : 0 + x.size.toNat = ys.length + 1 := by rw [hs]; omega
  have hq : ∀ j, 0 + 1 ≤ j → j < ys.length + 1 → ∃ y, (x :: ys)[j]? = some y ∧ y.size = 1 := by
    intro j h1 h2
    obtain ⟨i, rfl⟩ : ∃ i, j = i + 1 := ⟨j - 1, by omega⟩
    refine ⟨ys[i]'(by omega), by simp, (hys _ (List.getElem_mem _)).2⟩
  obtain ⟨h1, h2⟩ := askG_flat (x :: ys) x 1 (ys.length + 1) ys.length (ys.length + 1 + 1) 0 (0 + 1) (aks (ys.length + 1)) (by rw [hx]; simp) (by omega) (by omega) hq hAl
  by_cases hm : mayB x ⟨(ys.length + 1 : Nat), 1, true, false⟩ 0 = true
  · rw [if_pos hm]
    simp only [hz]
    rw [if_pos h1, if_neg (by decide)]
    have hA : ∀ (j : Nat) (y : Nd), ys[j]? = some y → (askG (x :: ys) x 1 (ys.length + 1) (ys.length + 1 + 1) 0 (0 + 1) (aks (ys.length + 1))).2[j + 1]? = some ⟨(ys.length + 1 : Nat), 2, decide ((j : Int) = ys.length - 1), wordAtB x.kind ys.length j⟩ := by
      intro j y hj
      have := (List.getElem?_eq_some_iff.1 hj).1
      rw [h2, if_pos ⟨by omega, by omega⟩]
      simp [hx]
    constructor
    · intro h
      refine ⟨hm, fun j y hj => ?_⟩
      have hlt := (List.getElem?_eq_some_iff.1 hj).1
      refine Bool.of_not_eq_false fun hne => goC_leaves_not _ _ ys.length (0 + 1) (fun j' h1' h2' => ?_) ⟨j + 1, y, _, by omega, by omega, by simpa using hj, hA j y hj, hne⟩ h
      obtain ⟨i, rfl⟩ : ∃ i, j' = i + 1 := ⟨j' - 1, by omega⟩
      exact ⟨ys[i]'(by omega), _, by simp, hA i _ (List.getElem?_eq_getElem (by omega)), (hys _ (List.getElem_mem _)).1⟩
    · rintro ⟨_, h⟩
      refine goC_leaves _ _ ys.length (0 + 1) fun j' h1' h2' => ?_
      obtain ⟨i, rfl⟩ : ∃ i, j' = i + 1 := ⟨j' - 1, by omega⟩
      have hi : ys[i]? = some (ys[i]'(by omega)) := List.getElem?_eq_getElem (by omega)
      exact ⟨ys[i]'(by omega), _, by simp, hA i _ hi, (hys _ (List.getElem_mem _)).1, by show (2 : Int) ≤ 30; decide, h i _ hi⟩
  · rw [if_neg hm]
    refine ⟨fun h => ?_, fun h => absurd h.1 hm⟩
    cases h
end Go.Proofs.YtfakelaibijgkaaDoor
