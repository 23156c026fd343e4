/- The table of kinds, held against the check. -/
import Derived.Test.YtgabodcbhjcmiaaDoorMany
namespace Go.Proofs.YtgabodcbhjcmiaaDoor
open Go.RowKit

/-- A child: a command, or a word. -/
def kidN (b : Bool) : Nd := if b then nopN else litN [97]
def headN (kind : Int) (bs : List Bool) (name : Bool) : Nd := ⟨kind, if kind = 33 then 2 else 0, bs.length, bs.length + 1, if name then [120] else []⟩
def cmdsOf (bs : List Bool) : Nat := (bs.filter id).length
def lastOf (bs : List Bool) : Bool := bs.getLast?.getD false
def namedK (kind : Int) : Bool := decide (kind = 22) || decide (kind = 29) || decide (kind = 31) || decide (kind = 35)
def caseB : Nat → List Bool → Bool
  | _, [] => true
  | i, b :: bs => (b == (decide (0 < i) && decide (i % 2 = 0))) && caseB (i + 1) bs
/-- What the table says. -/
def tabB (kind : Int) (bs : List Bool) : Bool :=
  if kind = 20 then decide (bs.length = 0)
  else if kind = 21 then decide (1 ≤ bs.length) && decide (cmdsOf bs = 0)
  else if kind = 22 ∨ kind = 36 then decide (bs.length = 1) && decide (cmdsOf bs = 0)
  else if kind = 23 ∨ kind = 32 then decide (2 ≤ bs.length) && decide (cmdsOf bs = bs.length)
  else if kind = 24 then decide (bs.length = 3) && decide (cmdsOf bs = 3)
  else if kind = 25 ∨ kind = 26 ∨ kind = 28 then decide (bs.length = 2) && decide (cmdsOf bs = 2)
  else if kind = 27 ∨ kind = 31 then decide (bs.length = 1) && decide (cmdsOf bs = 1)
  else if kind = 29 ∨ kind = 35 ∨ kind = 33 ∨ kind = 34 then decide (bs.length = 2) && decide (cmdsOf bs = 1) && lastOf bs
  else if kind = 37 then decide (1 ≤ bs.length) && decide (cmdsOf bs = 1) && lastOf bs
  else if kind = 30 then decide (bs.length % 2 = 1) && caseB 0 bs
  else false
def wordsB (kind : Int) (n : Nat) : Nat → List Bool → Bool
  | _, [] => true
  | j, b :: bs => (b == !wordAtB kind n j) && wordsB kind n (j + 1) bs
def allBs : Nat → List (List Bool)
  | 0 => [[]]
  | n + 1 => (allBs n).flatMap fun l => [true :: l, false :: l]
theorem allBs_mem : ∀ (n : Nat) (bs : List Bool), bs.length = n → bs ∈ allBs n
  | 0, [], _ => by simp [allBs]
  | n + 1, b :: bs, h => by
    have := allBs_mem n bs (by simpa using h)
    unfold allBs
    rw [List.mem_flatMap]
    exact ⟨bs, this, by cases b <;> simp⟩
def topB (kind : Int) (bs : List Bool) (name : Bool) : Bool := mayB (headN kind bs name) ⟨(bs.length + 1 : Nat), 1, true, false⟩ 0 && wordsB kind bs.length 0 bs
theorem table : ((List.range 18).all fun k => (List.range 8).all fun n => (allBs n).all fun bs => [true, false].all fun name =>
    topB ((k : Int) + 20) bs name == (tabB ((k : Int) + 20) bs && (namedK ((k : Int) + 20) == name))) = true := by
  decide +kernel
theorem wordsB_iff (kind : Int) (n : Nat) : ∀ (bs : List Bool) (j : Nat), wordsB kind n j bs = true ↔ ∀ (i : Nat) (b : Bool), bs[i]? = some b → b = !wordAtB kind n (j + i : Nat)
  | [], j => by simp [wordsB]
  | c :: bs, j => by
    unfold wordsB
    rw [Bool.and_eq_true, wordsB_iff kind n bs (j + 1), beq_iff_eq]
    constructor
    · rintro ⟨h1, h2⟩ i b hb
      cases i with
      | zero => simp at hb; rw [← hb]; exact h1
      | succ i =>
        have := h2 i b (by simpa using hb)
        rw [show j + 1 + i = j + (i + 1) by omega] at this
        exact this
    · intro h
      refine ⟨h 0 c rfl, fun i b hb => ?_⟩
      have := h (i + 1) b (by simpa using hb)
      rw [show j + (i + 1) = j + 1 + i by omega] at this
      exact this
theorem kid_may (b wd : Bool) (n j : Nat) (hj : j < n) : mayB (kidN b) ⟨(n + 1 : Nat), 2, decide ((j : Int) = (n : Int) - 1), wd⟩ (j + 1) = true ↔ b = !wd := by
  have hl : decide ((j : Int) = (n : Int) - 1) = true → ((n + 1 : Nat) : Int) - ((j + 1 : Nat) : Int) = 1 := fun h => by have := of_decide_eq_true h; omega
  constructor
  · intro h
    have h1 : isOneB (kidN b).kind wd = true := by
      unfold mayB at h
      simp only [Bool.and_eq_true] at h
      exact h.1.1.1.1
    cases b <;> cases wd <;> first | rfl | (exfalso; revert h1; decide)
  · intro h
    subst h
    cases wd with
    | true => exact leaf_may (kidN false) _ _ _ _ rfl rfl hl (by omega) (by decide) (by decide) (by decide) (by decide)
    | false => exact leaf_may (kidN true) _ _ _ _ rfl rfl hl (by omega) (by decide) (by decide) (by decide) (by decide)
/-- Whether it may be is what the table says. -/
theorem fine_kinds (k : Nat) (hk : k < 18) (bs : List Bool) (hb : bs.length < 8) (name : Bool) : checkL (headN ((k : Int) + 20) bs name :: bs.map kidN) = .fine ↔ (tabB ((k : Int) + 20) bs && (namedK ((k : Int) + 20) == name)) = true := by
  have ht := table
  rw [List.all_eq_true] at ht
  have h1 := ht k (List.mem_range.2 hk)
  rw [List.all_eq_true] at h1
  have h2 := h1 bs.length (List.mem_range.2 hb)
  rw [List.all_eq_true] at h2
  have h3 := h2 bs (allBs_mem _ bs rfl)
  rw [List.all_eq_true] at h3
  have h4 := h3 name (by cases name <;> simp)
  rw [beq_iff_eq] at h4
  rw [← h4]
  have hf := check_flat (headN ((k : Int) + 20) bs name) (bs.map kidN) (by simp [headN]) (by simp [headN]) (fun y hy => by
    obtain ⟨b, _, rfl⟩ := List.mem_map.1 hy
    cases b <;> exact ⟨rfl, rfl⟩) (by simp; omega)
  rw [hf]
  simp only [List.length_map]
  unfold topB
  rw [Bool.and_eq_true, wordsB_iff]
  constructor
  · rintro ⟨q1, q2⟩
    refine ⟨q1, fun i b hi => ?_⟩
    have hlt := (List.getElem?_eq_some_iff.1 hi).1
    have := q2 i (kidN b) (by rw [List.getElem?_map, hi]; rfl)
    rw [Nat.zero_add]
    exact (kid_may b _ bs.length i hlt).1 this
  · rintro ⟨q1, q2⟩
    refine ⟨q1, fun i y hi => ?_⟩
    rw [List.getElem?_map] at hi
    cases hb' : bs[i]? with
    | none => rw [hb'] at hi; cases hi
    | some b =>
      rw [hb'] at hi
      cases hi
      have hlt := (List.getElem?_eq_some_iff.1 hb').1
      have := q2 i b hb'
      rw [Nat.zero_add] at this
      exact (kid_may b _ bs.length i hlt).2 this
end Go.Proofs.YtgabodcbhjcmiaaDoor
