/- A strings.Builder of the call's own: its writers, and Escape. -/
import Derived.Lib.Strings
import Derived.Test.YtfafhjglcaikoaaGreatDoorG2
import Derived.Test.YtfafhjglcaikoaaGreatDoorProg
import Derived.WalkKit
import Derived.WalkSpells
import Derived.WalkLawsBesides
import Derived.Laws.ResultCell
import Derived.RangeFuncNested
import Derived.RangeFuncBound
import Derived.RangeFuncCalls
import Derived.RangeFuncLeaves
import Derived.Shelf.Abstract
import Derived.Shelf.RegionOpen
import Derived.OwnWalkIn
import Derived.TacticsInMore
import Derived.LoopNIn
import Derived.LoopIn
import Derived.Test.YtfafhjglcaikoaaGreatDoorG1
import Derived.Maps.AppendAt
import Derived.Laws.Rows
import Derived.Shelf.Strings.BuilderK
import Derived.Shelf.Small.Strs
/-! Plain facts on live text and patterns, over lists of bytes; nothing of the program is in it. -/
namespace Go.Proofs.YtfafhjglcaikoaaGreatDoor

/-- A letter of live text: its byte, and whether it is alive. -/
abbrev Lt := UInt8 × Bool

/-- The letters of a text. -/
def letts : List UInt8 → List Lt
  | [] => []
  | [c] => [(c, c != 92)]
  | c :: d :: r => if c = 92 then (d, false) :: letts r else (c, true) :: letts (d :: r)
/-- The first letter, and how many bytes it takes. -/
def headL : List UInt8 → Lt
  | [] => (0, false)
  | [c] => (c, c != 92)
  | c :: d :: _ => if c = 92 then (d, false) else (c, true)
def headW : List UInt8 → Nat
  | [] => 1
  | [_] => 1
  | c :: _ :: _ => if c = 92 then 2 else 1

theorem headW_pos (l : List UInt8) : 1 ≤ headW l := by
  match l with
  | [] => simp [headW]
  | [_] => simp [headW]
  | c :: d :: r => simp only [headW]; split <;> omega
theorem headW_le (l : List UInt8) (h : l ≠ []) : headW l ≤ l.length := by
  match l, h with
  | [_], _ => simp [headW]
  | c :: d :: r, _ => simp only [headW, List.length_cons]; split <;> omega
theorem letts_step (l : List UInt8) (h : l ≠ []) : letts l = headL l :: letts (l.drop (headW l)) := by
  match l, h with
  | [c], _ => simp [letts, headL, headW]
  | c :: d :: r, _ =>
    by_cases e : c = 92
    · simp [letts, headL, headW, e]
    · simp [letts, headL, headW, e]
theorem letts_nil : letts [] = [] := rfl
theorem letts_length_le : ∀ l : List UInt8, (letts l).length ≤ l.length
  | [] => by simp [letts]
  | [c] => by simp [letts]
  | c :: d :: r => by
    have h1 := letts_length_le r
    have h2 := letts_length_le (d :: r)
    unfold letts
    split
    · simp; omega
    · simp at h2 ⊢; omega

/-- The letters, each with its place. -/
def placed : Nat → List UInt8 → List (Nat × Lt)
  | _, [] => []
  | i, [c] => [(i, (c, c != 92))]
  | i, c :: d :: r => if c = 92 then (i, (d, false)) :: placed (i + 2) r else (i, (c, true)) :: placed (i + 1) (d :: r)
theorem placed_step (i : Nat) (l : List UInt8) (h : l ≠ []) : placed i l = (i, headL l) :: placed (i + headW l) (l.drop (headW l)) := by
  match l, h with
  | [c], _ => simp [placed, headL, headW]
  | c :: d :: r, _ =>
    by_cases e : c = 92
    · simp [placed, headL, headW, e]
    · simp [placed, headL, headW, e]
theorem placed_nil (i : Nat) : placed i [] = [] := rfl
theorem placed_snd (l : List UInt8) : ∀ i, (placed i l).map Prod.snd = letts l := by
  induction l using letts.induct with
  | case1 => intro i; rfl
  | case2 c => intro i; rfl
  | case3 d r ih => intro i; simp [placed, letts, ih]
  | case4 c d r h ih => intro i; simp [placed, letts, h, ih]

/-- A blank. -/
def blankC (c : UInt8) : Bool := c == 32 || c == 9 || c == 10
/-- The letters, each with the bytes that it is written with. -/
def chunks : List UInt8 → List (List UInt8 × Lt)
  | [] => []
  | [c] => [([c], (c, c != 92))]
  | c :: d :: r => if c = 92 then ([c, d], (d, false)) :: chunks r else ([c], (c, true)) :: chunks (d :: r)
theorem chunks_step (l : List UInt8) (h : l ≠ []) : chunks l = (l.take (headW l), headL l) :: chunks (l.drop (headW l)) := by
  match l, h with
  | [c], _ => simp [chunks, headL, headW]
  | c :: d :: r, _ =>
    by_cases e : c = 92
    · simp [chunks, headL, headW, e]
    · simp [chunks, headL, headW, e]
theorem headW_alive (l : List UInt8) (h : (headL l).2 = true) : headW l = 1 := by
  match l, h with
  | [_], _ => rfl
  | c :: d :: r, h =>
    by_cases e : c = 92
    · simp [headL, e] at h
    · simp [headW, e]
  | [], h => rfl
/-- A part, if it is not empty. -/
def one (acc : List UInt8) : List (List UInt8) := if acc = [] then [] else [acc]
/-- The parts between living blanks, the first begun already. -/
def splitR : List UInt8 → List (List UInt8 × Lt) → List (List UInt8)
  | acc, [] => one acc
  | acc, (raw, l) :: r => if l.2 && blankC l.1 then one acc ++ splitR [] r else splitR (acc ++ raw) r
def splitL (l : List UInt8) : List (List UInt8) := splitR [] (chunks l)

/-- Is the letter c, alive? -/
def isL (l : Lt) (c : UInt8) : Bool := l.2 && l.1 == c

/-- The place of the last living closing bracket, or 0. -/
def lastOf : List Lt → Nat := fun l => (l.zipIdx.foldl (fun a p => if isL p.1 93 then p.2 else a) 0)
theorem lastOf_nil : lastOf [] = 0 := rfl
theorem lastOf_snoc (l : List Lt) (x : Lt) : lastOf (l ++ [x]) = if isL x 93 then l.length else lastOf l := by
  simp [lastOf, List.zipIdx_append, List.foldl_append]
theorem snocInd {α : Type} {p : List α → Prop} (h0 : p []) (h1 : ∀ l x, p l → p (l ++ [x])) : ∀ l, p l := by
  intro l
  have h : p l.reverse.reverse := by
    induction l.reverse with
    | nil => exact h0
    | cons x r ih => rw [List.reverse_cons]; exact h1 _ _ ih
  simpa using h
theorem lastOf_lt (l : List Lt) : lastOf l = 0 ∨ lastOf l < l.length := by
  induction l using snocInd with
  | h0 => left; rfl
  | h1 l x ih => rw [lastOf_snoc]; split <;> simp <;> omega
theorem lastOf_is (l : List Lt) : 0 < lastOf l → ∃ x, l[lastOf l]? = some x ∧ isL x 93 = true := by
  induction l using snocInd with
  | h0 => intro h; simp [lastOf_nil] at h
  | h1 l x ih =>
    intro h
    rw [lastOf_snoc] at h ⊢
    by_cases e : isL x 93 = true
    · rw [if_pos e]; exact ⟨x, by simp, e⟩
    · rw [if_neg e] at h ⊢
      obtain ⟨y, h1, h2⟩ := ih h
      refine ⟨y, ?_, h2⟩
      rw [List.getElem?_append_left (List.getElem?_eq_some_iff.1 h1).1]
      exact h1
theorem lastOf_ge (l : List Lt) : ∀ k x, l[k]? = some x → isL x 93 = true → k ≤ lastOf l := by
  induction l using snocInd with
  | h0 => intro k x h; simp at h
  | h1 l x ih =>
    intro k y h hy
    rw [lastOf_snoc]
    have hk := (List.getElem?_eq_some_iff.1 h).1
    simp at hk
    by_cases e : k = l.length
    · subst e
      rw [List.getElem?_append_right (Nat.le_refl _)] at h
      simp at h
      subst h
      rw [if_pos hy]; exact Nat.le_refl _
    · rw [List.getElem?_append_left (by omega)] at h
      have := ih k y h hy
      split
      · omega
      · exact this
/-- Does what opens at i close? -/
theorem last_iff (l : List Lt) (i : Nat) : i + 1 < lastOf l ↔ (l.drop (i + 2)).any (isL · 93) = true := by
  rw [List.any_eq_true]
  constructor
  · intro h
    obtain ⟨x, h1, h2⟩ := lastOf_is l (by omega)
    refine ⟨x, ?_, h2⟩
    refine List.mem_of_getElem? (i := lastOf l - (i + 2)) ?_
    rw [List.getElem?_drop, show i + 2 + (lastOf l - (i + 2)) = lastOf l by omega]
    exact h1
  · rintro ⟨x, h1, h2⟩
    obtain ⟨k, hk⟩ := List.getElem?_of_mem h1
    rw [List.getElem?_drop] at hk
    have := lastOf_ge l _ x hk h2
    omega

/-- Is a pattern byte in it? -/
def liveR : List Lt → Bool
  | [] => false
  | x :: r => (isL x 42 || isL x 63 || (isL x 91 && (r.drop 1).any (isL · 93))) || liveR r

/-! Sets of bytes, as what is in them. -/
def setNo : Nat → Bool := fun _ => false
def setNot (f : Nat → Bool) : Nat → Bool := fun c => !f c
def setAdd (f : Nat → Bool) (a b : Nat) : Nat → Bool := fun c => f c || (decide (a ≤ c) && decide (c ≤ b))

/-- The number whose bits below n are those of g. -/
def bitsN (g : Nat → Bool) : Nat → Nat
  | 0 => 0
  | n + 1 => bitsN g n + (if g n then 2 ^ n else 0)
theorem bitsN_lt (g : Nat → Bool) : ∀ n, bitsN g n < 2 ^ n
  | 0 => by simp [bitsN]
  | n + 1 => by
    have := bitsN_lt g n
    unfold bitsN
    rw [Nat.pow_succ]
    split <;> omega
theorem bitsN_testBit (g : Nat → Bool) : ∀ n i, (bitsN g n).testBit i = (decide (i < n) && g i)
  | 0, i => by simp [bitsN]
  | n + 1, i => by
    have ih := bitsN_testBit g n i
    have hlt := bitsN_lt g n
    unfold bitsN
    by_cases hg : g n = true
    · rw [if_pos hg, Nat.add_comm]
      by_cases h1 : i < n
      · rw [Nat.testBit_two_pow_add_gt h1, ih]; simp [h1]; omega
      · by_cases h2 : i = n
        · subst h2
          rw [Nat.testBit_two_pow_add_eq, ih]; simp [hg]
        · have : 2 ^ n + bitsN g n < 2 ^ i := by
            have h3 : 2 ^ (n + 1) ≤ 2 ^ i := Nat.pow_le_pow_right (by omega) (by omega)
            rw [Nat.pow_succ] at h3
            omega
          rw [Nat.testBit_lt_two_pow this]
          simp; omega
    · rw [if_neg hg, Nat.add_zero, ih]
      by_cases h1 : i < n
      · simp [h1]; omega
      · by_cases h2 : i = n
        · subst h2; simp; simpa using hg
        · have : ¬ i < n + 1 := by omega
          simp [h1, this]
/-- Word j of a set. -/
def wordOf (f : Nat → Bool) (j : Nat) : Nat := bitsN (fun b => f (64 * j + b)) 64
theorem wordOf_lt (f : Nat → Bool) (j : Nat) : wordOf f j < 2 ^ 64 := bitsN_lt _ _
theorem wordOf_testBit (f : Nat → Bool) (j i : Nat) : (wordOf f j).testBit i = (decide (i < 64) && f (64 * j + i)) := bitsN_testBit _ _ _
theorem wordOf_no (j : Nat) : wordOf setNo j = 0 := by
  apply Nat.eq_of_testBit_eq; intro i; rw [wordOf_testBit]; simp [setNo]
theorem wordOf_not (f : Nat → Bool) (j : Nat) : wordOf (setNot f) j = 2 ^ 64 - 1 - wordOf f j := by
  apply Nat.eq_of_testBit_eq
  intro i
  rw [wordOf_testBit, show 2 ^ 64 - 1 - wordOf f j = 2 ^ 64 - (wordOf f j + 1) by omega, Nat.testBit_two_pow_sub_succ (wordOf_lt f j), wordOf_testBit]
  by_cases h : i < 64 <;> simp [h, setNot]
theorem wordOf_has (f : Nat → Bool) (c : Nat) : ((wordOf f (c / 64)) >>> (c % 64)) % 2 = if f c then 1 else 0 := by
  have h := wordOf_testBit f (c / 64) (c % 64)
  have hm : c % 64 < 64 := Nat.mod_lt _ (by omega)
  rw [Nat.div_add_mod] at h
  simp [hm] at h
  rw [Nat.testBit_eq_decide_div_mod_eq] at h
  rw [Nat.shiftRight_eq_div_pow]
  by_cases e : f c = true
  · rw [e] at h; rw [if_pos e]; simpa using h
  · have e' : f c = false := by simpa using e
    rw [e'] at h; rw [if_neg e]; simp at h; omega
theorem wordOf_add1 (f : Nat → Bool) (c j : Nat) : wordOf (setAdd f c c) j = if j = c / 64 then wordOf f j ||| 2 ^ (c % 64) else wordOf f j := by
  apply Nat.eq_of_testBit_eq
  intro i
  have hm : c % 64 < 64 := Nat.mod_lt _ (by omega)
  have hd := Nat.div_add_mod c 64
  by_cases e : j = c / 64
  · rw [if_pos e, Nat.testBit_or, wordOf_testBit, wordOf_testBit, Nat.testBit_two_pow]
    by_cases h : i < 64
    · simp [h, setAdd]
      congr 1
      subst e
      by_cases h2 : c % 64 = i
      · subst h2; simp [hd]
      · simp [h2]; omega
    · simp [h]; omega
  · rw [if_neg e, wordOf_testBit, wordOf_testBit]
    by_cases h : i < 64
    · simp [h, setAdd]
      intro h1 h2
      exfalso
      apply e
      omega
    · simp [h]
theorem setAdd_succ (f : Nat → Bool) (a b : Nat) (h : a ≤ b + 1) : setAdd (setAdd f a b) (b + 1) (b + 1) = setAdd f a (b + 1) := by
  funext c
  simp only [setAdd]
  cases f c <;> simp
  by_cases h1 : a ≤ c <;> by_cases h2 : c ≤ b <;> by_cases h3 : c = b + 1 <;> simp [h1, h2, h3] <;> omega
theorem setAdd_none (f : Nat → Bool) (a b : Nat) (h : b < a) : setAdd f a b = f := by
  funext c
  simp only [setAdd]
  cases f c <;> simp
  omega

/-- What is between brackets, put in. -/
def fillS : List Lt → (Nat → Bool) → (Nat → Bool)
  | [], f => f
  | [a], f => setAdd f a.1.toNat a.1.toNat
  | [a, b], f => fillS [b] (setAdd f a.1.toNat a.1.toNat)
  | a :: b :: d :: r, f => if isL b 45 then fillS r (setAdd f a.1.toNat d.1.toNat) else fillS (b :: d :: r) (setAdd f a.1.toNat a.1.toNat)
def turnedL (l : List Lt) : Bool := decide (1 < l.length) && isL (l.headD (0, false)) 94
def amongS (l : List Lt) : Nat → Bool := if turnedL l then setNot (fillS l.tail setNo) else fillS l setNo

/-- A piece of a pattern: is it any bytes; else one byte of a set. -/
abbrev Pc := Bool × (Nat → Bool)
/-- Where a bracket's closing one stands, counted from the letter behind the one behind the bracket. -/
def closeIn (x : Lt) (r : List Lt) : Option Nat := if isL x 91 then (r.drop 1).findIdx? (isL · 93) else none
def pcs : List Lt → List Pc
  | [] => []
  | x :: r =>
    if isL x 42 then (true, setNo) :: pcs r
    else if isL x 63 then (false, setNot setNo) :: pcs r
    else match closeIn x r with
      | some k => (false, amongS (r.take (k + 1))) :: pcs (r.drop (k + 2))
      | none => (false, setAdd setNo x.1.toNat x.1.toNat) :: pcs r
termination_by l => l.length
decreasing_by all_goals simp <;> omega

/-! Matching. -/
def starM (g : List UInt8 → Bool) : List UInt8 → Bool
  | [] => g []
  | c :: s => g (c :: s) || starM g s
def mt : List Pc → List UInt8 → Bool
  | [], s => s.isEmpty
  | p :: l, s => if p.1 then starM (mt l) s else match s with
    | [] => false
    | c :: s' => p.2 c.toNat && mt l s'
theorem starM_iff (g : List UInt8 → Bool) : ∀ s, starM g s = true ↔ ∃ k, k ≤ s.length ∧ g (s.drop k) = true
  | [] => by
    simp only [starM]
    constructor
    · intro h; exact ⟨0, by simp, by simpa using h⟩
    · rintro ⟨k, _, h⟩; simpa using h
  | c :: s => by
    simp only [starM, Bool.or_eq_true, starM_iff g s]
    constructor
    · rintro (h | ⟨k, h1, h2⟩)
      · exact ⟨0, by simp, by simpa using h⟩
      · exact ⟨k + 1, by simpa using h1, by simpa using h2⟩
    · rintro ⟨k, h1, h2⟩
      cases k with
      | zero => left; simpa using h2
      | succ k => right; exact ⟨k, by simpa using h1, by simpa using h2⟩
/-- Pieces of one byte each, against as many bytes. -/
def ones : List Pc → List UInt8 → Bool
  | [], [] => true
  | p :: l, c :: s => !p.1 && p.2 c.toNat && ones l s
  | _, _ => false
theorem ones_length : ∀ l s, ones l s = true → l.length = s.length
  | [], [], _ => rfl
  | p :: l, c :: s, h => by simp [ones] at h; simp [ones_length l s h.2]
  | [], _ :: _, h => by simp [ones] at h
  | _ :: _, [], h => by simp [ones] at h
theorem mt_ones : ∀ (l : List Pc) (L : List Pc) (u S : List UInt8), ones l u = true → mt (l ++ L) (u ++ S) = mt L S
  | [], L, [], S, _ => rfl
  | p :: l, L, c :: u, S, h => by
    simp [ones] at h
    simp only [List.cons_append, mt, h.1.1, h.1.2]
    simp
    exact mt_ones l L u S h.2
  | [], _, _ :: _, _, h => by simp [ones] at h
  | _ :: _, _, [], _, h => by simp [ones] at h
/-- Pieces of one byte each take just as many bytes as they are. -/
theorem mt_ones_drop : ∀ (l : List Pc) (L : List Pc) (s : List UInt8), (∀ p ∈ l, p.1 = false) → mt (l ++ L) s = true → l.length ≤ s.length ∧ mt L (s.drop l.length) = true
  | [], L, s, _, h => ⟨by simp, by simpa using h⟩
  | p :: l, L, s, hp, h => by
    have h1 : p.1 = false := hp p (by simp)
    cases s with
    | nil => simp [mt, h1] at h
    | cons c s =>
      simp [mt, h1] at h
      have := mt_ones_drop l L s (fun q hq => hp q (by simp [hq])) h.2
      exact ⟨by simpa using this.1, by simpa using this.2⟩
theorem ones_many : ∀ l s, ones l s = true → ∀ p ∈ l, p.1 = false
  | [], [], _ => by simp
  | p :: l, c :: s, h => by
    simp [ones] at h
    intro q hq
    rcases List.mem_cons.1 hq with rfl | hq
    · exact h.1.1
    · exact ones_many l s h.2 q hq
  | [], _ :: _, h => by simp [ones] at h
  | _ :: _, [], h => by simp [ones] at h
/-- A star, pieces of one byte each that fit, another star: the first may as well take nothing. -/
theorem mt_star_star (f g : Nat → Bool) (l L : List Pc) (u S : List UInt8) (h : ones l u = true) :
    mt ((true, f) :: (l ++ (true, g) :: L)) (u ++ S) = mt ((true, g) :: L) S := by
  rw [Bool.eq_iff_iff]
  have hlen := ones_length _ _ h
  constructor
  · intro hm
    simp only [mt, if_pos] at hm
    obtain ⟨k, hk, hm⟩ := (starM_iff _ _).1 hm
    obtain ⟨h1, h2⟩ := mt_ones_drop l _ _ (ones_many _ _ h) hm
    simp only [mt, if_pos] at h2 ⊢
    obtain ⟨j, hj, h2⟩ := (starM_iff _ _).1 h2
    refine (starM_iff _ _).2 ⟨k + j, ?_, ?_⟩
    · simp at hj hk h1; omega
    · rw [List.drop_drop, List.drop_drop, show k + (l.length + j) = u.length + (k + j) by omega, ← List.drop_drop, List.drop_left' rfl] at h2
      exact h2
  · intro hm
    simp only [mt, if_pos]
    refine (starM_iff _ _).2 ⟨0, by simp, ?_⟩
    simp only [List.drop_zero]
    rw [mt_ones _ _ _ _ h]
    exact hm

/-- A star behind which all has been tried at this place takes one byte more. -/
theorem mt_star_more (f : Nat → Bool) (L : List Pc) (c : UInt8) (S : List UInt8) (h : mt L (c :: S) = false) : mt ((true, f) :: L) (c :: S) = mt ((true, f) :: L) S := by
  simp [mt, starM, h]
/-- At the end: a star, and pieces that fit all that is left for it. -/
theorem mt_star_end (f : Nat → Bool) (l L : List Pc) (u : List UInt8) (h : ones l u = true) : mt ((true, f) :: (l ++ L)) u = mt L [] := by
  have hlen := ones_length _ _ h
  rw [Bool.eq_iff_iff]
  constructor
  · intro hm
    simp only [mt, if_pos] at hm
    obtain ⟨k, hk, hm⟩ := (starM_iff _ _).1 hm
    obtain ⟨h1, h2⟩ := mt_ones_drop l _ _ (ones_many _ _ h) hm
    rw [List.drop_drop, List.drop_eq_nil_of_le (by omega)] at h2
    exact h2
  · intro hm
    simp only [mt, if_pos]
    refine (starM_iff _ _).2 ⟨0, by simp, ?_⟩
    have := mt_ones l L u [] h
    simp at this ⊢
    rw [this]; exact hm
theorem mt_nil : ∀ L : List Pc, mt L [] = L.all (·.1)
  | [] => rfl
  | p :: L => by
    cases h : p.1
    · simp [mt, h]
    · simp [mt, h, starM, mt_nil L]

/-- Where the search stands: the answer for all is the answer for what the last star may still take. -/
structure Stand (l : List Pc) (s : List UInt8) (next at_ star taken : Nat) (has : Bool) : Prop where
  next_le : next ≤ l.length
  at_le : at_ ≤ s.length
  none : has = false → mt l s = mt (l.drop next) (s.drop at_)
  some : has = true → star < next ∧ taken ≤ at_ ∧ next - (star + 1) = at_ - taken ∧ (∃ f, l[star]? = Option.some (true, f)) ∧
    mt l s = mt (l.drop star) (s.drop taken) ∧ ones ((l.drop (star + 1)).take (next - (star + 1))) ((s.drop taken).take (at_ - taken)) = true
theorem Stand.start (l : List Pc) (s : List UInt8) (star taken : Nat) : Stand l s 0 0 star taken false :=
  ⟨by simp, by simp, fun _ => by simp, fun h => by cases h⟩
theorem drop_consL {α : Type} {l : List α} {n : Nat} {x : α} (h : l[n]? = some x) : l.drop n = x :: l.drop (n + 1) := by
  obtain ⟨h1, h2⟩ := List.getElem?_eq_some_iff.1 h
  rw [List.drop_eq_getElem_cons h1, h2]
theorem Stand.parts {l : List Pc} {s : List UInt8} {next at_ star taken : Nat} (h : Stand l s next at_ star taken true) :
    ∃ f m u, l.drop star = (true, f) :: (m ++ l.drop next) ∧ s.drop taken = u ++ s.drop at_ ∧ ones m u = true ∧ m = (l.drop (star + 1)).take (next - (star + 1)) ∧ u = (s.drop taken).take (at_ - taken) := by
  obtain ⟨h1, h2, h3, ⟨f, hf⟩, h4, h5⟩ := h.some rfl
  refine ⟨f, _, _, ?_, ?_, h5, rfl, rfl⟩
  · rw [drop_consL hf]
    congr 1
    conv => lhs; rw [← List.take_append_drop (next - (star + 1)) (l.drop (star + 1))]
    rw [List.drop_drop, show star + 1 + (next - (star + 1)) = next by omega]
  · conv => lhs; rw [← List.take_append_drop (at_ - taken) (s.drop taken)]
    rw [List.drop_drop, show taken + (at_ - taken) = at_ by omega]
/-- At a star: it is the last one now. -/
theorem Stand.star {l : List Pc} {s : List UInt8} {next at_ star taken : Nat} {has : Bool} (h : Stand l s next at_ star taken has) {f : Nat → Bool} (hf : l[next]? = Option.some (true, f)) :
    Stand l s (next + 1) at_ next at_ true := by
  have hn := (List.getElem?_eq_some_iff.1 hf).1
  refine ⟨by omega, h.at_le, fun h => (by cases h), fun _ => ⟨by omega, Nat.le_refl _, by omega, ⟨f, hf⟩, ?_, by simp [ones]⟩⟩
  cases has with
  | false => exact h.none rfl
  | true =>
    obtain ⟨f', m, u, e1, e2, e3, _⟩ := h.parts
    obtain ⟨_, _, _, _, h4, _⟩ := h.some rfl
    rw [h4, e1, e2, drop_consL hf, mt_star_star f' f m _ u _ e3]
theorem ones_snoc : ∀ (m : List Pc) (u : List UInt8) (p : Pc) (c : UInt8), ones m u = true → p.1 = false → p.2 c.toNat = true → ones (m ++ [p]) (u ++ [c]) = true
  | [], [], p, c, _, h1, h2 => by simp [ones, h1, h2]
  | q :: m, d :: u, p, c, h, h1, h2 => by
    simp [ones] at h ⊢
    exact ⟨h.1, ones_snoc m u p c h.2 h1 h2⟩
  | [], _ :: _, _, _, h, _, _ => by simp [ones] at h
  | _ :: _, [], _, _, h, _, _ => by simp [ones] at h
theorem take_snocL {α : Type} {l : List α} {n : Nat} {x : α} (h : l[n]? = some x) : l.take (n + 1) = l.take n ++ [x] := by
  rw [List.take_add_one, h]; rfl
/-- A piece that takes the byte. -/
theorem Stand.one {l : List Pc} {s : List UInt8} {next at_ star taken : Nat} {has : Bool} (h : Stand l s next at_ star taken has) {p : Pc} {c : UInt8}
    (hp : l[next]? = Option.some p) (hc : s[at_]? = Option.some c) (h1 : p.1 = false) (h2 : p.2 c.toNat = true) : Stand l s (next + 1) (at_ + 1) star taken has := by
  have hn := (List.getElem?_eq_some_iff.1 hp).1
  have ha := (List.getElem?_eq_some_iff.1 hc).1
  refine ⟨by omega, by omega, fun e => ?_, fun e => ?_⟩
  · rw [h.none e, drop_consL hp, drop_consL hc]
    simp [mt, h1, h2]
  · obtain ⟨a1, a2, a3, a4, a5, a6⟩ := h.some e
    refine ⟨by omega, by omega, by omega, a4, a5, ?_⟩
    rw [show next + 1 - (star + 1) = next - (star + 1) + 1 by omega, show at_ + 1 - taken = at_ - taken + 1 by omega, take_snocL (x := p), take_snocL (x := c)]
    · exact ones_snoc _ _ _ _ a6 h1 h2
    · rw [List.getElem?_drop, show taken + (at_ - taken) = at_ by omega]; exact hc
    · rw [List.getElem?_drop, show star + 1 + (next - (star + 1)) = next by omega]; exact hp
/-- Does the piece at a place not take the byte? -/
def stuck (l : List Pc) (next : Nat) (c : UInt8) : Prop := match l[next]? with
  | some p => p.1 = false ∧ p.2 c.toNat = false
  | none => True
theorem stuck_mt {l : List Pc} {next : Nat} {c : UInt8} (S : List UInt8) (h : stuck l next c) : mt (l.drop next) (c :: S) = false := by
  unfold stuck at h
  cases hp : l[next]? with
  | none =>
    rw [List.drop_eq_nil_of_le (List.getElem?_eq_none_iff.1 hp)]; rfl
  | some p =>
    rw [hp] at h
    rw [drop_consL hp]
    simp [mt, h.1, h.2]
/-- No piece takes the byte, and there is a star: it takes one more. -/
theorem Stand.back {l : List Pc} {s : List UInt8} {next at_ star taken : Nat} (h : Stand l s next at_ star taken true) {c : UInt8} (hc : s[at_]? = Option.some c) (hs : stuck l next c) :
    Stand l s (star + 1) (taken + 1) star (taken + 1) true := by
  obtain ⟨f, m, u, e1, e2, e3, em, eu⟩ := h.parts
  obtain ⟨a1, a2, a3, a4, a5, a6⟩ := h.some rfl
  have ha := (List.getElem?_eq_some_iff.1 hc).1
  refine ⟨by have := h.next_le; omega, by omega, fun e => (by cases e), fun _ => ⟨by omega, Nat.le_refl _, by omega, a4, ?_, by simp [ones]⟩⟩
  rw [a5]
  have hne : mt (m ++ l.drop next) (u ++ s.drop at_) = false := by
    rw [mt_ones _ _ _ _ e3, drop_consL hc]; exact stuck_mt _ hs
  rw [← e2] at hne
  obtain ⟨d, hd⟩ : ∃ d, s[taken]? = Option.some d := ⟨_, List.getElem?_eq_getElem (by omega)⟩
  rw [e1]
  rw [drop_consL hd] at hne ⊢
  exact mt_star_more f _ d _ hne
theorem Stand.fails {l : List Pc} {s : List UInt8} {next at_ star taken : Nat} (h : Stand l s next at_ star taken false) {c : UInt8} (hc : s[at_]? = Option.some c) (hs : stuck l next c) : mt l s = false := by
  rw [h.none rfl, drop_consL hc]; exact stuck_mt _ hs
/-- All bytes are taken: what is left must be stars. -/
theorem Stand.ends {l : List Pc} {s : List UInt8} {next at_ star taken : Nat} {has : Bool} (h : Stand l s next at_ star taken has) (ha : at_ = s.length) : mt l s = (l.drop next).all (·.1) := by
  subst ha
  cases has with
  | false => rw [h.none rfl, List.drop_length, mt_nil]
  | true =>
    obtain ⟨f, m, u, e1, e2, e3, em, eu⟩ := h.parts
    obtain ⟨a1, a2, a3, a4, a5, a6⟩ := h.some rfl
    rw [a5, e1, e2, List.drop_length, List.append_nil, mt_star_end f m _ u e3, mt_nil]

end Go.Proofs.YtfafhjglcaikoaaGreatDoor
/-! What the small functions on letters answer, and what they leave of the world. -/
namespace Go.Proofs.YtfafhjglcaikoaaGreatDoor
open Go.RowKit

/-- A letter as the program has it. -/
abbrev ltV (x : Lt) : Value := .agg #[.int .u8 x.1.toNat, .bool x.2]

theorem beq_u8 (c d : UInt8) : ((c.toNat : Int) == (d.toNat : Int)) = (c == d) := by
  rw [Bool.eq_iff_iff]
  simp only [beq_iff_eq]
  constructor
  · intro h; exact UInt8.toNat_inj.1 (by omega)
  · intro h; rw [h]

set_option maxHeartbeats 400000 in
theorem is_any (x : Lt) (d : UInt8) (dv : Int) (hd : (d.toNat : Int) = dv) (w : World) :
    Calls Tryz.prog 252 #[ltV x, .int .u8 dv] w fun e w' => e = .returned (.bool (isL x d)) ∧ w' = w.alloc (.cells #[.int .u8 x.1.toNat, .bool x.2] 319) := by
  obtain ⟨c, a⟩ := x
  subst hd
  cases a
  all_goals
    go_enter Tryz.func252, Tryz.ntmps252
    go_wp2
    go_ret
    refine ⟨ret_bool ?_, rfl⟩
    first | rfl | (simp only [isL, Bool.true_and]; exact beq_u8 c d)

set_option maxHeartbeats 400000 in
theorem blank_any (c : UInt8) (w : World) :
    Calls Tryz.prog 280 #[.int .u8 c.toNat] w fun e w' => e = .returned (.bool (blankC c)) ∧ w' = w := by
  have e1 := beq_u8 c 32
  have e2 := beq_u8 c 9
  have e3 := beq_u8 c 10
  obtain ⟨b1, h1⟩ : ∃ b, (c == 32) = b := ⟨_, rfl⟩
  obtain ⟨b2, h2⟩ : ∃ b, (c == 9) = b := ⟨_, rfl⟩
  have hb : blankC c = (b1 || b2 || c == 10) := by simp only [blankC, h1, h2]
  rw [hb]
  rw [h1] at e1
  rw [h2] at e2
  clear h1 h2 hb
  have e1' : ((c.toNat : Int) == 32) = b1 := e1
  have e2' : ((c.toNat : Int) == 9) = b2 := e2
  have e3' : ((c.toNat : Int) == 10) = (c == 10) := e3
  clear e1 e2 e3
  cases b1 <;> cases b2
  all_goals
    go_enter Tryz.func280, Tryz.ntmps280
    go_wp2
    go_ret
    refine ⟨ret_bool ?_, rfl⟩
    first | rfl | (simp only [Bool.false_or, Bool.or_false, Bool.true_or, Bool.or_true, e1', e2', e3'])

theorem headL_of (s : ByteArray) (h : 0 < s.size) : s.data.toList = s[0] :: s.data.toList.drop 1 := by
  have h' : 0 < s.data.toList.length := by simpa using h
  rw [← List.drop_zero (l := s.data.toList), List.drop_eq_getElem_cons h']
  simp; rfl
theorem list0 (s : ByteArray) (h : 0 < s.size) (h1 : s[0] ≠ 92) : headL s.data.toList = (s[0], true) ∧ headW s.data.toList = 1 := by
  rw [headL_of s h]
  cases s.data.toList.drop 1 with
  | nil => simp [headL, headW, h1]
  | cons d r => simp [headL, headW, h1]
theorem list1 (s : ByteArray) (h : s.size = 1) (h1 : s[0]'(by omega) = 92) : headL s.data.toList = (92, false) ∧ headW s.data.toList = 1 := by
  rw [headL_of s (by omega), List.drop_eq_nil_of_le (by simpa using Nat.le_of_eq h)]
  simp [headL, headW, h1]
theorem list2 (s : ByteArray) (h : 1 < s.size) (h1 : s[0]'(by omega) = 92) : headL s.data.toList = (s[1], false) ∧ headW s.data.toList = 2 := by
  have h' : 1 < s.data.toList.length := by simpa using h
  rw [headL_of s (by omega), List.drop_eq_getElem_cons h']
  simp [headL, headW, h1]; rfl

set_option maxHeartbeats 1000000 in
theorem letterOf_any (s : ByteArray) (w : World) (h : 0 < s.size) :
    Calls Tryz.prog 298 #[.string s] w fun e w' => e = .returned (.tuple #[ltV (headL s.data.toList), .int .i64 (headW s.data.toList)]) ∧ Below w.heap.size w w' := by
  have hdat : ((({ data := #[92] } : ByteArray)[0]'(by decide)).toNat : Int) = 92 := rfl
  by_cases h1 : s[0] = 92
  · have hq : (((s[0]).toNat : Int) == 92) = true := by rw [h1]; rfl
    by_cases h2 : s.size = 1
    · obtain ⟨e1, e2⟩ := list1 s h2 h1
      rw [e1, e2]
      go_enter Tryz.func298, Tryz.ntmps298
      go_wp2
      go_region
      all_goals go_wp2
      refine bodyPost_ret (v := .tuple #[ltV (92, false), .int .i64 ((1 : Nat) : Int)]) (by rw [results_cell_tmp rfl]; go_simp) rfl ?_
      exact ⟨rfl, ((Below.refl _ w).alloc (Nat.le_refl _) _).drew⟩
    · obtain ⟨e1, e2⟩ := list2 s (by omega) h1
      rw [e1, e2]
      go_enter Tryz.func298, Tryz.ntmps298
      go_wp2
      go_region
      all_goals go_wp2
      refine bodyPost_ret (v := .tuple #[ltV (s[1], false), .int .i64 ((2 : Nat) : Int)]) (by rw [results_cell_tmp rfl]; go_simp) rfl ?_
      exact ⟨rfl, ((Below.refl _ w).alloc (Nat.le_refl _) _).drew⟩
  · obtain ⟨e1, e2⟩ := list0 s (by omega) h1
    rw [e1, e2]
    have hq : (((s[0]).toNat : Int) != 92) = true := by
      have := beq_u8 s[0] 92
      have h3 : (s[0] == 92) = false := by simpa using h1
      rw [h3] at this
      have t2 : (((s[0]).toNat : Int) == 92) = false := this
      simp only [bne, t2, Bool.not_false]
    go_enter Tryz.func298, Tryz.ntmps298
    go_wp2
    go_region
    all_goals go_wp2
    refine bodyPost_ret (v := .tuple #[ltV (s[0], true), .int .i64 ((1 : Nat) : Int)]) (by rw [results_cell_tmp rfl]; go_simp) rfl ?_
    exact ⟨rfl, ((Below.refl _ w).alloc (Nat.le_refl _) _).drew⟩
end Go.Proofs.YtfafhjglcaikoaaGreatDoor
/-! A range over a function whose rounds are told which element of a known list they have, and whose body never leaves it: what the iterator promises, and what the statement comes to. -/
namespace Go.Proofs.YtfafhjglcaikoaaGreatDoor
open Go.RowKit

/-- What an iterator promises that hands on the elements of xs one by one: to every body whose rounds go on, and leave block b as it lay. -/
def Each {α : Type} (F : Fence) (n : Nat) (P : Program) (g : Nat) (lb : Array Value) (encs : α → Array Value) (xs : List α) (b : Nat) (w : World) : Prop :=
  ∀ (l : Nat) (J : Nat → World → Prop) (W : World), Below w.heap.size w W → (∀ k A B, J k A → Below A.heap.size A B → J k B) →
    (∀ k x W1, xs[k]? = some x → J k W1 → YieldAt F (n - 1) P l (encs x) W1 fun e W' => e = .returned (.bool true) ∧ J (k + 1) W' ∧ W'.heap[b]? = W1.heap[b]?) →
    J 0 W → CallsIn F n P g (#[.func (.yield l) #[] #[]] ++ lb) W fun e W' => (∃ v, e = .returned v) ∧ J xs.length W'

/-- How a round is left: it goes on. -/
def eachPost (B b : Nat) (I : World → Prop) (W : World) : Exit → Act → World → Prop
  | .normal, _, W' => KeepsFrom B W W' ∧ W'.heap[b]? = W.heap[b]? ∧ I W'
  | _, _, _ => False

theorem grownBy_of_below {A B : World} (h : Below A.heap.size A B) : A.grownBy B none := ⟨h.os, h.tape, h.output, h.size, fun k hk _ => h.block k hk⟩

theorem wpIn_range_each {α : Type} {F : Fence} {n : Nat} {P : Program} {g : Operand} {ps : Array Tmp} {assign body : Code} {Q : Exit → Act → World → Prop} {a : Act} {w : World}
    (hro : F.round = none) (h1 : 1 ≤ n) {gf : Nat} {lb : Array Value} (hg : a.eval g = .func (.func gf) #[] lb) (hFg : F.fn gf) (eg : ∀ args w, (callFunc gf args).run P w = .ok (.enter gf args) w)
    {encs : α → Array Value} {xs : List α} {b : Nat} {w0 : World} (hseq : Each F (n - 1) P gf lb encs xs b w0) (hb : b < w.heap.size) (hb0 : Below w0.heap.size w0 w) (hps : ∀ x, (encs x).size = ps.size)
    (I : Nat → World → Prop) (hI : OwnFrom w.heap.size I) (h0 : I 0 w) (Ax : α → Act → World → Prop) (hAx : ∀ x a', OwnFrom w.heap.size (fun (_ : Unit) W => Ax x a' W))
    (hassign : ∀ (l k : Nat) (x : α) (W : World) (K : Act → World → Prop), xs[k]? = some x → I k W → (∀ a' W', KeepsFrom w.heap.size W W' → W'.heap[b]? = W.heap[b]? → I k W' → Ax x a' W' → K a' W') →
      assign.wpIn (F.inRound l) (n - 1 - 1) P (Exit.then K (fun _ _ _ => False)) { tmps := (ps.zip (encs x)).foldl (fun t (p, v) => t.setIfInBounds p v) a.tmps, defers := [] } W)
    (hbody : ∀ (l k : Nat) (x : α) (a' : Act) (W : World), xs[k]? = some x → I k W → Ax x a' W → body.wpIn (F.inRound l) (n - 1 - 1) P (eachPost w.heap.size b (I (k + 1)) W) a' W)
    (hdone : ∀ (D : Nat) (W : World), w.heap.size ≤ D → I xs.length W → W.heap[D]? = some (.deferred (some [])) → Q .normal { a with defers := { target := .collected D, args := #[] } :: a.defers } W) :
    (Code.rangeFunc g ps assign body).wpIn F n P Q a w := by
  refine wpIn_rangeFunc fun fn hfn => ?_
  rw [hro]
  -- the two blocks of the loop's own: the deferred calls (D), the record (R)
  obtain ⟨D, hD⟩ : ∃ D, w.heap.size = D := ⟨_, rfl⟩
  obtain ⟨rd, hrd⟩ : ∃ rd : Loop, rd = { state := .ready, pending := none, fn, tmps := a.tmps, params := ps, assign, body, defers := D } := ⟨_, rfl⟩
  obtain ⟨W1, hW1⟩ : ∃ W1, (w.alloc (.deferred (some []))).alloc (.loop rd) = W1 := ⟨_, rfl⟩
  have hsz : W1.heap.size = D + 2 := by rw [← hW1, ← hD]; simp
  have hR : W1.heap[D + 1]? = some (.loop rd) := by
    have := World.alloc_heap_new (w.alloc (.deferred (some []))) (.loop rd)
    rw [World.size_alloc, hD] at this
    rw [← hW1]; exact this
  have hDf : W1.heap[D]? = some (.deferred (some [])) := by
    rw [← hW1, ← hD]; exact (Below.heap_alloc _ _ _ (by simp)).trans (World.alloc_heap_new w _)
  have hI1 : I 0 W1 := by rw [← hW1]; exact hI.alloc _ (hI.alloc _ h0)
  have hb1 : Below w0.heap.size w0 W1 := by
    rw [← hW1]; exact hb0.trans ((((Below.refl _ w).alloc (Nat.le_refl _) _).alloc (by simp) _).mono hb0.size)
  refine ⟨D + 1, [{ target := .collected D, args := #[] }], W1, { target := .fn (.func gf) lb, args := #[.func (.yield (D + 1)) #[] #[]] }, W1, gf, #[.func (.yield (D + 1)) #[] #[]] ++ lb, W1, ?_, ?_, ?_, ?_, fun _ => h1, ?_⟩
  · rw [← hW1, hrd, ← hD]; exact run_enterLoop_outer _ _ _ _ _
  · simp only [resolve, hg]
    simp [go_sem]
  · intro f' hf'
    simp [Target.leads] at hf'
    subst hf'; exact hFg
  · simp [invoke, go_sem, eg]
  -- the iterator, at the body's invariant and the two blocks as they stand between rounds
  refine (hseq (D + 1) (fun k W => I k W ∧ W.heap[D + 1]? = some (.loop rd) ∧ W.heap[D]? = some (.deferred (some []))) W1 hb1 ?_ ?_ ⟨hI1, hR, hDf⟩).mono ?_
  · rintro k A B ⟨i1, i2, i3⟩ hab
    refine ⟨hI k A B none i1 (grownBy_of_below hab) (fun r e => by cases e), (hab.block _ (Array.getElem?_eq_some_iff.1 i2).1).trans i2, (hab.block _ (Array.getElem?_eq_some_iff.1 i3).1).trans i3⟩
  · rintro k x W hx ⟨i1, i2, i3⟩
    have hy := run_yield (P := P) (args := encs x) i2 (by rw [hrd]; exact hps x)
    rw [hrd] at hy
    refine ⟨fn, _, assign, body, hy, roundIn_of_wpIn hfn (hassign _ k x W _ hx i1 ?_)⟩
    clear hy
    intro a' Wa ka ba ia ax
    have j2 := ka.same _ _ (by omega) i2 rfl
    have j3 := ka.same _ _ (by omega) i3 rfl
    have jl := (Array.getElem?_eq_some_iff.1 j2).1
    refine ⟨_, run_beginRound j2 (by rw [hrd]), ?_⟩
    have hpb : (Wa.putObj (D + 1) (.loop { rd with state := .busy })).heap[b]? = Wa.heap[b]? := World.putObj_heap_other (by omega)
    refine wpIn_mono (hbody _ k x a' _ hx (hI.putObj _ ia (by omega) j2 rfl) ((hAx x a').putObj (s := ()) _ ax (by omega) j2 rfl)) ?_
    rintro e a3 W3 hp
    cases e with
    | normal =>
      obtain ⟨k3, b3, i3'⟩ := hp
      have m2 := k3.same (D + 1) _ (by omega) (World.putObj_heap_same jl) rfl
      have m3 := k3.same D _ (by omega) ((World.putObj_heap_other (by omega)).trans j3) rfl
      have ml := (Array.getElem?_eq_some_iff.1 m2).1
      have hend := run_endRound (P := P) none m2
      have hrec : ({ ({ rd with state := .busy } : Loop) with state := if (none : Option Code).isNone then .ready else .done, pending := none } : Loop) = rd := by rw [hrd]; rfl
      rw [hrec] at hend
      refine ⟨_, _, hend, rfl, ⟨hI.putObj _ i3' (by omega) m2 rfl, World.putObj_heap_same ml, (World.putObj_heap_other (by omega)).trans m3⟩, ?_⟩
      exact (((World.putObj_heap_other (by omega)).trans b3).trans hpb).trans ba
    | ret => exact hp.elim
    | exit id => exact hp.elim
    | goto t => exact hp.elim
    | panic ch => exact hp.elim
    | outgrown => exact hp.elim
  · rintro e W2 ⟨⟨v, rfl⟩, i1, i2, i3⟩
    have hend := run_endLoop (P := P) i2 (by rw [hrd]; simp)
    refine ⟨_, _, hend, ?_⟩
    have : rd.pending = none := by rw [hrd]
    rw [this]
    exact hdone D _ (by omega) (hI.putObj _ i1 (by omega) i2 rfl) ((World.putObj_heap_other (by omega)).trans i3)

end Go.Proofs.YtfafhjglcaikoaaGreatDoor
/-! The iterator over the letters of a text. -/
namespace Go.Proofs.YtfafhjglcaikoaaGreatDoor
open Go.RowKit Go.Shelf
attribute [local go_sem] Oper.semAt_some

set_option maxHeartbeats 400000 in
theorem letters_any (s : ByteArray) (w : World) :
    Calls Tryz.prog 279 #[.string s] w fun e w' => e = .returned (.func (.func 297) #[] #[.pointer (some ⟨w.heap.size, 0, none⟩)]) ∧ w' = w.alloc (.cells #[.string s] 9) := by
  go_enter Tryz.func279, Tryz.ntmps279
  go_wp2
  go_ret
  exact ⟨rfl, rfl⟩

abbrev encL (x : Nat × Lt) : Array Value := #[.int .i64 x.1, ltV x.2]

theorem cell_of_block {A B : World} {b : Nat} (h : B.heap[b]? = A.heap[b]?) (o : Nat) : B.cell? ⟨b, o, none⟩ = A.cell? ⟨b, o, none⟩ := World.cell?_of_block h

theorem lt_of_cell {w : World} {b o : Nat} {v : Value} (h : w.cell? ⟨b, o, none⟩ = some v) : b < w.heap.size := block_lt_of_cell h
theorem extract_tail (s : ByteArray) (i : Nat) : (s.extract i s.size).data.toList = s.data.toList.drop i := by
  rw [Lib.extract_data, List.take_of_length_le (by simp)]

set_option maxRecDepth 100000 in
set_option maxHeartbeats 2000000 in
theorem letters1_in (n : Nat) (hn : 1 ≤ n) (l b : Nat) (s : ByteArray) (hs : s.size < 4611686018427387904) (J : Nat → World → Prop) (hJ : ∀ k A B, J k A → Below A.heap.size A B → J k B)
    (hY : ∀ k x W1, (placed 0 s.data.toList)[k]? = some x → J k W1 → YieldAt Fence.wide (n - 1) Tryz.prog l (encL x) W1 fun e W' => e = .returned (.bool true) ∧ J (k + 1) W' ∧ W'.heap[b]? = W1.heap[b]?)
    (W : World) (hb : W.cell? ⟨b, 0, none⟩ = some (.string s)) (h0 : J 0 W) :
    CallsIn Fence.wide n Tryz.prog 297 #[.func (.yield l) #[] #[], .pointer (some ⟨b, 0, none⟩)] W fun e W' => (∃ v, e = .returned v) ∧ J (placed 0 s.data.toList).length W' := by
  refine callsIn_of_wp Tryz.func297 rfl trivial ?_ rfl
  simp only [Tryz.ntmps297, List.size_toArray, List.length_cons, List.length_nil, Nat.reduceAdd, Nat.reduceSub, Array.replicate_succ, Array.replicate_zero, List.push_toArray, List.append_toArray, List.nil_append, List.cons_append]
  gi_wp2
  gi_loopw [3, 4, 5] (fun vi _ _ wr => ∃ i k : Nat, vi = .int .i64 i ∧ i ≤ s.size ∧ k ≤ (placed 0 s.data.toList).length ∧ Hid ((placed 0 s.data.toList).drop k = placed i (s.data.toList.drop i)) ∧ wr.cell? ⟨b, 0, none⟩ = some (.string s) ∧ J k wr)
    (fun vi _ _ _ => s.size - (intOf vi).toNat)
  case atStart =>
    exact ⟨0, 0, rfl, by omega, by omega, by simp [Hid], hb, h0⟩
  case round =>
    obtain ⟨i, k, rfl, hi, hkl, hd, hc, hj⟩ := hrel
    by_cases hlt : i < s.size
    · obtain ⟨x, hx⟩ : ∃ x, headL (s.data.toList.drop i) = x := ⟨_, rfl⟩
      obtain ⟨d, hdw⟩ : ∃ d, headW (s.data.toList.drop i) = d := ⟨_, rfl⟩
      have EX : Hid ((s.extract i s.size).data.toList = s.data.toList.drop i) := extract_tail s i
      have hne : s.data.toList.drop i ≠ [] := by intro h; have := List.drop_eq_nil_iff.1 h; simp at this; omega
      have hd1 : 1 ≤ d := by rw [← hdw]; exact headW_pos _
      have hd2 : i + d ≤ s.size := by have := headW_le _ hne; rw [hdw] at this; simp at this; omega
      have st := placed_step i _ hne
      rw [hx, hdw, List.drop_drop] at st
      have hd' := hd.out
      rw [st] at hd'
      have hget : (placed 0 s.data.toList)[k]? = some (i, x) := by
        have := congrArg (fun l => l[0]?) hd'
        simpa [List.getElem?_drop] using this
      have hdrop : Hid ((placed 0 s.data.toList).drop (k + 1) = placed (i + d) (s.data.toList.drop (i + d))) := by
        have := congrArg List.tail hd'
        unfold Hid
        simpa using this
      clear st hd' hne
      have hkl' : k + 1 ≤ (placed 0 s.data.toList).length := (List.getElem?_eq_some_iff.1 hget).1
      have HX : Hid _ := hx
      have HW : Hid _ := hdw
      have HG : Hid _ := hget
      clear hx hdw hget hd
      have hz : 0 < (s.extract i s.size).size := by rw [ByteArray.size_extract]; omega
      have HZ : Hid _ := hz
      clear hz
      gi_wp2
      refine ⟨trivial, ?_⟩
      refine (callsIn_wide.2 (letterOf_any _ _ HZ.out)).mono ?_
      rintro e w1 ⟨rfl, hb1⟩
      rw [EX.out, HX.out, HW.out]
      have hc1 := (hb1.cell (p := ⟨b, 0, none⟩) (lt_of_cell hc)).trans hc
      obtain ⟨fn, tmps, assign, body, hy, hR⟩ := hY k (i, x) _ HG.out (hJ k wr (w1.alloc (.cells #[.int .u8 x.1.toNat, .bool x.2] 319)) hj (hb1.alloc hb1.size _))
      dsimp only [encL] at hy
      gi_wp2
      refine hR.mono ?_
      rintro e W3 ⟨rfl, hj3, hk3⟩
      have hc3 : W3.cell? ⟨b, 0, none⟩ = some (.string s) := by
        rw [cell_of_block hk3, cell_of_block (Below.heap_alloc w1 _ b (lt_of_cell hc1))]; exact hc1
      clear hc hc1 hy hR
      gi_wp2
      go_roundw
      case rel => exact ⟨i + d, k + 1, by simp, hd2, hkl', hdrop, hc3, hj3⟩
      case measure => simp [intOf]; omega
    · gi_wp2
      go_end0
      refine ⟨⟨_, rfl⟩, ?_⟩
      have hi' : i = s.size := by omega
      have h2 := hd.out
      rw [hi', List.drop_eq_nil_of_le (by simp : s.data.toList.length ≤ s.size), placed_nil] at h2
      have h3 := List.drop_eq_nil_iff.1 h2
      rw [show (placed 0 s.data.toList).length = k by omega]
      exact hj

/-- What letters(s) hands back promises each letter, with its place. -/
theorem letters_each (n : Nat) (hn : 1 ≤ n) (b : Nat) (s : ByteArray) (hs : s.size < 4611686018427387904) (w : World) (hb : w.cell? ⟨b, 0, none⟩ = some (.string s)) :
    Each Fence.wide n Tryz.prog 297 #[.pointer (some ⟨b, 0, none⟩)] encL (placed 0 s.data.toList) b w := fun l J W hW hJ hY h0 =>
  letters1_in n hn l b s hs J hJ hY W ((hW.cell (p := ⟨b, 0, none⟩) (lt_of_cell hb)).trans hb) h0
end Go.Proofs.YtfafhjglcaikoaaGreatDoor
/-! Live text, read. -/
namespace Go.Proofs.YtfafhjglcaikoaaGreatDoor
open Go.RowKit Go.Shelf
attribute [local go_sem] Oper.semAt_some

theorem Cel.alloc {W : World} {b : Nat} {t : TypeId} {cs : Array Value} (h : Cel W b t cs) (o : Obj) : Cel (W.alloc o) b t cs := (Below.heap_alloc W o b h.lt).trans h
theorem Cel.kept {W W' : World} {row : Option Nat} {b : Nat} {t : TypeId} {cs : Array Value} (h : Cel W b t cs) (hg : W.grownBy W' row) (hne : some b ≠ row) : Cel W' b t cs := (hg.block b h.lt hne).trans h
theorem Cel.own {W W' : World} {row : Option Nat} {b : Nat} {t : TypeId} {cs : Array Value} (h : Cel W b t cs) (hg : W.grownBy W' row) (hr : ∀ r, row = some r → ∃ o : Obj, W.heap[r]? = some o ∧ o.isCells = false) : Cel W' b t cs :=
  (grownBy_keeps_cells hg hr h rfl).trans h
/-- A slice's own row is no block of another type. -/
theorem Cel.not_row {W : World} {b : Nat} {t e : TypeId} {cs : Array Value} (h : Cel W b t cs) (hte : t ≠ e) {base size k : Nat} {v : Value} {xs : List Value} (hr : W.ownsRow base e size v k xs) : some b ≠ v.ownBlock := by
  rcases hr.2 with ⟨rfl, _⟩ | ⟨g, cap, cur, rfl, _, hgb, _⟩
  · simp [Value.ownBlock]
  · intro e'
    obtain rfl : b = g := by simpa [Value.ownBlock] using e'
    have := (show W.heap[b]? = _ from h).symm.trans hgb
    simp at this
    exact hte this.2
theorem owns_own {W W' : World} {row : Option Nat} {base e size k : Nat} {v : Value} {xs : List Value} (h : W.ownsRow base e size v k xs) (hg : W.grownBy W' row) (hr : ∀ r, row = some r → ∃ o : Obj, W.heap[r]? = some o ∧ o.isCells = false) : W'.ownsRow base e size v k xs := by
  refine h.kept hg ?_
  rcases h.2 with ⟨rfl, _⟩ | ⟨g, cap, cur, rfl, _, hgb, _⟩
  · exact .inl rfl
  · refine .inr fun e' => ?_
    obtain ⟨o, ho, hc⟩ := hr g (by simpa [Value.ownBlock] using e'.symm)
    rw [hgb] at ho; cases ho; cases hc

theorem owns_set {W : World} {base e size k b : Nat} {t : TypeId} {cs : Array Value} {v : Value} {xs : List Value} (h : W.ownsRow base e size v k xs) (hc : Cel W b t cs) (hte : t ≠ e) (j : Nat) (u : Value) : (W.setCell ⟨b, j, none⟩ u).ownsRow base e size v k xs :=
  h.kept ⟨rfl, rfl, rfl, (KeepsWalks.setCell W _ _).size, fun q _ hq => Below.heap_setCell _ _ _ q (fun e => hq (by rw [e]))⟩ (.inr (hc.not_row hte h).symm)
/-- Behind an append whose result is stored into cell j of block b: all that is owed. -/
theorem Cel.appended {W w1 : World} {n₀ b j : Nat} {t e : TypeId} {size : Nat} {cs : Array Value} {v v' : Value} {k m : Nat} {xs ys : List Value} {tmp : Obj}
    (hv : Cel W b t cs) (hte : t ≠ e) (hrow : W.ownsRow n₀ e size v k xs) (hn₀ : n₀ ≤ W.heap.size) (hB : n₀ ≤ b)
    (hown' : w1.ownsRow n₀ e size v' m ys) (hgrow : (W.alloc tmp).grownBy w1 v.ownBlock) :
    Cel w1 b t cs ∧ Cel (w1.setCell ⟨b, j, none⟩ v') b t (cs.setIfInBounds j v') ∧ (w1.setCell ⟨b, j, none⟩ v').ownsRow n₀ e size v' m ys ∧ KeepsOthers W (w1.setCell ⟨b, j, none⟩ v') ∧ Below n₀ W (w1.setCell ⟨b, j, none⟩ v') ∧
      (∀ b' t' cs', Cel W b' t' cs' → t' ≠ e → b' ≠ b → Cel (w1.setCell ⟨b, j, none⟩ v') b' t' cs') := by
  have hv1 : Cel w1 b t cs := (hv.alloc tmp).kept hgrow (hv.not_row hte hrow)
  have hgs : w1.grownBy (w1.setCell ⟨b, j, none⟩ v') (some b) := ⟨rfl, rfl, rfl, (KeepsWalks.setCell w1 _ v').size, fun q _ hq => Below.heap_setCell _ _ _ q (fun e => hq (by rw [e]))⟩
  refine ⟨hv1, hv1.set v', hown'.kept hgs (.inr (hv1.not_row hte hown').symm), ?_, ?_, ?_⟩
  · refine ((KeepsOthers.alloc W tmp).trans (KeepsOthers.of_grownBy hgrow fun q o ej hj => ?_)).trans (KeepsOthers.setCell _ _ _)
    rcases (hrow.alloc tmp).2 with ⟨rfl, _⟩ | ⟨g, cap, cur, rfl, _, hgb, _⟩
    · simp [Value.ownBlock] at ej
    · obtain rfl : g = q := by simpa [Value.ownBlock] using ej
      rw [hgb] at hj; cases hj; rfl
  · refine (((Below.refl n₀ W).alloc hn₀ tmp).grown hgrow (by simp; omega) fun q ej => ?_).setCell (p := ⟨b, j, none⟩) hB v'
    rcases hrow.2 with ⟨rfl, _⟩ | ⟨g, cap, cur, rfl, hb, _, _⟩
    · simp [Value.ownBlock] at ej
    · obtain rfl : g = q := by simpa [Value.ownBlock] using ej
      exact hb
  · intro b' t' cs' h' ht hb'
    exact ((h'.alloc tmp).kept hgrow (h'.not_row ht hrow)).other hb' v'

/-- The letters as cells. -/
def ltCells (l : List Lt) : List Value := l.flatMap fun x => [.int .u8 x.1.toNat, .bool x.2]
theorem ltCells_snoc (l : List Lt) (x : Lt) : ltCells (l ++ [x]) = ltCells l ++ [.int .u8 x.1.toNat, .bool x.2] := by simp [ltCells]
theorem ltCells_length (l : List Lt) : (ltCells l).length = l.length * 2 := by
  induction l with
  | nil => rfl
  | cons x l ih => simp [ltCells] at ih ⊢; omega

theorem is_below (x : Lt) (d : UInt8) (dv : Int) (hd : (d.toNat : Int) = dv) (w : World) :
    Calls Tryz.prog 252 #[ltV x, .int .u8 dv] w fun e w' => e = .returned (.bool (isL x d)) ∧ Below w.heap.size w w' :=
  (is_any x d dv hd w).mono fun _ _ h => ⟨h.1, h.2 ▸ (Below.refl _ w).alloc (Nat.le_refl _) _⟩
theorem keeps_below {B : Nat} {W W2 : World} (h : Below W.heap.size W W2) : KeepsFrom B W W2 := ⟨h.size, fun q _ _ hq _ => (h.block q (Array.getElem?_eq_some_iff.1 hq).1).trans hq⟩
theorem size61 : (Tryz.prog.info? 316).map (·.size) = some 2 := by kernel_rfl
theorem info58L : (Tryz.prog.info? 319).map (fun i => (i.zero, i.size, i.bytes)) = some (some (.agg #[.int .u8 0, .bool false]), 2, 2) := by kernel_rfl

set_option maxRecDepth 100000 in
set_option maxHeartbeats 2000000 in
theorem read_in (n : Nat) (hn : 3 ≤ n) (s : ByteArray) (hs : s.size < 35184372088832) (w : World) :
    CallsIn Fence.wide n Tryz.prog 251 #[.string s] w fun e w' => ∃ v, e = .returned (.agg #[v, .int .i64 (lastOf (letts s.data.toList))]) ∧
      w'.ownsRow w.heap.size 319 2 v (letts s.data.toList).length (ltCells (letts s.data.toList)) ∧ Below w.heap.size w w' := by
  have h1 : 1 ≤ n := by omega
  obtain ⟨i0, hi, hz0, hz1, hz2⟩ := info_parts info58L
  obtain ⟨L, hL⟩ : ∃ L, letts s.data.toList = L := ⟨_, rfl⟩
  rw [hL]
  have hxs : (placed 0 s.data.toList).map Prod.snd = L := by rw [placed_snd, hL]
  have hlen : (placed 0 s.data.toList).length = L.length := by rw [← hxs]; simp
  have hLs : L.length ≤ s.size := by rw [← hL]; exact Nat.le_trans (letts_length_le _) (by simp)
  clear hL
  have HXS : Hid _ := hxs
  have HLEN : Hid _ := hlen
  clear hxs hlen
  refine callsIn_of_wp_marks Tryz.func251 rfl trivial ?_ rfl
  simp only [Tryz.ntmps251, List.size_toArray, List.length_cons, List.length_nil, Nat.reduceAdd, Nat.reduceSub, Array.replicate_succ, Array.replicate_zero, List.push_toArray, List.append_toArray, List.nil_append, List.cons_append]
  gi_wp2
  refine ⟨trivial, ?_⟩
  refine (callsIn_wide.2 (letters_any _ _)).mono ?_
  rintro e w1 ⟨rfl, rfl⟩
  gi_wp2
  have c0 := Cel.new w 316 #[.slice none 0 0, .int .i64 0]
  have c1 := Cel.new (w.alloc (.cells #[.slice none 0 0, .int .i64 0] 316)) 316 #[.slice none 0 0, .int .i64 0]
  have c2 := Cel.new ((w.alloc (.cells #[.slice none 0 0, .int .i64 0] 316)).alloc (.cells #[.slice none 0 0, .int .i64 0] 316)) 9 #[.string s]
  rw [World.size_alloc] at c1
  rw [World.size_alloc, World.size_alloc] at c2
  have hB0 : Below w.heap.size w (((w.alloc (.cells #[.slice none 0 0, .int .i64 0] 316)).alloc (.cells #[.slice none 0 0, .int .i64 0] 316)).alloc (.cells #[.string s] 9)) := (((Below.refl _ w).alloc (Nat.le_refl _) _).alloc (by simp) _).alloc (by simp; omega) _
  refine wpIn_range_each (b := w.heap.size + 1 + 1) rfl h1 (gf := 297) (lb := #[.pointer (some ⟨w.heap.size + 1 + 1, 0, none⟩)]) (by first | rfl | simp [Act.eval]) trivial (enters_of Tryz.func297 (by kernel_rfl) rfl)
    (letters_each (n - 1) (by omega) (w.heap.size + 1 + 1) s (by omega) _ (c2.cell 0)) (by simp) (Below.refl _ _) (fun _ => rfl)
    (fun k W => (∃ v, Cel W (w.heap.size + 1) 316 #[v, .int .i64 (lastOf (L.take k))] ∧ W.ownsRow w.heap.size 319 2 v k (ltCells (L.take k))) ∧ Cel W w.heap.size 316 #[.slice none 0 0, .int .i64 0] ∧ Cel W (w.heap.size + 1 + 1) 9 #[.string s] ∧ Below w.heap.size w W)
    ?own ⟨⟨_, c1.alloc _, World.ownsRow_nil _ _ _ _⟩, (c0.alloc _).alloc _, c2, hB0⟩
    (fun x a' W => ∃ Bx, w.heap.size + 1 + 1 < Bx ∧ Cel W Bx 319 #[.int .u8 x.2.1.toNat, .bool x.2.2] ∧ a' = { tmps := #[.string s, undef, .pointer (some ⟨w.heap.size, 0, none⟩), .pointer (some ⟨w.heap.size + 1, 0, none⟩), undef, .pointer (some ⟨Bx, 0, none⟩), .string s, .func (.func 297) #[] #[.pointer (some ⟨w.heap.size + 1 + 1, 0, none⟩)], .int .i64 x.1, ltV x.2, undef, undef, undef, undef, undef, undef, undef, undef, undef, undef, undef, undef, undef], defers := [] })
    ?axown ?assign ?body ?done
  case own =>
    rintro k X Y row ⟨⟨v, a1, a2⟩, a3, a4, a5⟩ hg hr
    have hr' : ∀ r, row = some r → ∃ o : Obj, X.heap[r]? = some o ∧ o.isCells = false := fun r e => (hr r e).2
    exact ⟨⟨v, a1.own hg hr', owns_own a2 hg hr'⟩, a3.own hg hr', a4.own hg hr', a5.grown hg a5.size (fun q e => by have := (hr q e).1; simp at this; omega)⟩
  case axown =>
    rintro x a' _ X Y row ⟨Bx, h2, h3, h4⟩ hg hr
    exact ⟨Bx, h2, h3.own hg (fun r e => (hr r e).2), h4⟩
  case assign =>
    rintro l k x W K hx ⟨⟨v, a1, a2⟩, a3, a4, a5⟩ hK
    gi_wp2
    exact hK _ _ ((KeepsOthers.alloc _ _).from _) (Below.heap_alloc _ _ _ a4.lt) ⟨⟨v, a1.alloc _, a2.alloc _⟩, a3.alloc _, a4.alloc _, a5.alloc a5.size _⟩ ⟨W.heap.size, a4.lt, Cel.new W 319 _, rfl⟩
  case body =>
    rintro l k x a' W hx ⟨⟨v, a1, a2⟩, a3, a4, a5⟩ ⟨Bx, b1, b2, rfl⟩
    have hxL : L[k]? = some x.2 := by rw [← HXS.out, List.getElem?_map, hx]; rfl
    have hkL : k < L.length := (List.getElem?_eq_some_iff.1 hxL).1
    have hts : L.take (k + 1) = L.take k ++ [x.2] := take_snocL hxL
    have hlk : (L.take k).length = k := by simp; omega
    have HTS : Hid _ := hts
    have HLK : Hid _ := hlk
    clear hxL hts hlk hx
    have d1 : W.cell? ⟨Bx, 0, none⟩ = some (.int .u8 x.2.1.toNat) := b2.cell 0
    have d2 : W.cell? ⟨Bx, 1, none⟩ = some (.bool x.2.2) := b2.cell 1
    gi_wp2
    refine ⟨trivial, fun _ => by omega, ?_⟩
    refine (CallsIn.inRound l (callsIn_wide.2 (is_below x.2 93 93 rfl _))).mono ?_
    rintro e W2 ⟨rfl, hb2⟩
    replace d1 := (hb2.cell (p := ⟨Bx, 0, none⟩) b2.lt).trans d1
    replace d2 := (hb2.cell (p := ⟨Bx, 1, none⟩) b2.lt).trans d2
    replace a1 := a1.below hb2 a1.lt
    replace a3 := a3.below hb2 a3.lt
    have a4W := a4
    replace a4 := a4.below hb2 a4.lt
    replace b2 := b2.below hb2 b2.lt
    replace a2 := owns_own a2 (grownBy_of_below hb2) (fun r e => by cases e)
    replace a5 := a5.trans (hb2.mono a5.size)
    obtain ⟨ad, cap, rfl⟩ := owns_slice a2
    have c1 : W2.cell? ⟨w.heap.size + 1, 0, none⟩ = some (.slice ad k cap) := a1.cell 0
    have c2 : W2.cell? ⟨w.heap.size + 1, 1, none⟩ = some (.int .i64 (lastOf (L.take k))) := a1.cell 1
    have f1 := a1.frozen 0
    have f2 := a1.frozen 1
    have hks : k < 35184372088832 := by omega
    have hw5 := a5.size
    cases hq : isL x.2 93
    · gi_wp2_with (gi_at_builtin; refine wpListIn_append_own _ rfl _ _ 314 rfl w.heap.size 319 i0 (.agg #[.int .u8 0, .bool false]) 2 2 Tryz.underlying314 hi hz0 hz1 hz2 rfl (by decide) _ _ _ rfl (a2.alloc _) ⟨W2.heap.size, 0, none⟩ 1 1 [.int .u8 x.2.1.toNat, .bool x.2.2] rfl rfl (cells_new _ [.int .u8 x.2.1.toNat, .bool x.2.2] _) (by simp [Value.oneCell']) (by have := maxLen_big; omega) (by omega) (by have := a5.size; simp; omega) ?_; intro v' w1 hown' hgrow _; obtain ⟨g', cap', rfl⟩ := ownsRow_succ hown'; obtain ⟨r1, r2, r3, r4, r5, r6⟩ := a1.appended (j := 0) (by decide) a2 a5.size (by omega) hown' hgrow; have e1 := r1.cell 0; have e2 := r1.frozen 0)
      refine ⟨(keeps_below hb2).trans (r4.from _), (r6 _ _ _ a4 (by decide) (by omega)).trans a4W.symm, ⟨.slice (some ⟨g', 0, none⟩) (k + 1) cap', ?_, ?_⟩, r6 _ _ _ a3 (by decide) (by omega), r6 _ _ _ a4 (by decide) (by omega), a5.trans r5⟩
      · rw [HTS.out, lastOf_snoc, if_neg (by rw [hq]; simp)]; exact r2
      · rw [HTS.out, ltCells_snoc]; exact r3
    · have a1' := a1.set (j := 1) (.int .i64 k)
      have a2' : (W2.setCell ⟨w.heap.size + 1, 1, none⟩ (.int .i64 k)).ownsRow w.heap.size 319 2 (.slice ad k cap) k (ltCells (L.take k)) :=
        a2.kept ⟨rfl, rfl, rfl, (KeepsWalks.setCell W2 _ _).size, fun q _ hq => Below.heap_setCell _ _ _ q (fun e => hq (by rw [e]))⟩ (.inr (a1.not_row (by decide) a2).symm)
      have hsz3 : Hid ((W2.setCell ⟨w.heap.size + 1, 1, none⟩ (.int .i64 k)).heap.size = W2.heap.size) := by unfold Hid; simp
      gi_wp2_with (gi_at_builtin; refine wpListIn_append_own _ rfl _ _ 314 rfl w.heap.size 319 i0 (.agg #[.int .u8 0, .bool false]) 2 2 Tryz.underlying314 hi hz0 hz1 hz2 rfl (by decide) _ _ _ rfl (a2'.alloc _) ⟨W2.heap.size, 0, none⟩ 1 1 [.int .u8 x.2.1.toNat, .bool x.2.2] rfl rfl (by have h := cells_new (W2.setCell ⟨w.heap.size + 1, 1, none⟩ (.int .i64 k)) [.int .u8 x.2.1.toNat, .bool x.2.2] 319; rw [hsz3.out] at h; exact h) (by simp [Value.oneCell']) (by have := maxLen_big; omega) (by omega) (by have := a5.size; simp; omega) ?_; intro v' w1 hown' hgrow _; obtain ⟨g', cap', rfl⟩ := ownsRow_succ hown'; obtain ⟨r1, r2, r3, r4, r5, r6⟩ := a1'.appended (j := 0) (by decide) a2' (Nat.le_trans a5.size (KeepsWalks.setCell W2 _ _).size) (by omega) hown' hgrow; have e1 := r1.cell 0; have e2 := r1.frozen 0)
      refine ⟨((keeps_below hb2).trans ((KeepsOthers.setCell _ _ _).from _)).trans (r4.from _), (r6 _ _ _ (a4.other (by omega) _) (by decide) (by omega)).trans a4W.symm, ⟨.slice (some ⟨g', 0, none⟩) (k + 1) cap', ?_, ?_⟩, r6 _ _ _ (a3.other (by omega) _) (by decide) (by omega), r6 _ _ _ (a4.other (by omega) _) (by decide) (by omega), (a5.setCell (p := ⟨w.heap.size + 1, 1, none⟩) (by simp) _).trans r5⟩
      · rw [HTS.out, lastOf_snoc, if_pos hq, HLK.out]; exact r2
      · rw [HTS.out, ltCells_snoc]; exact r3
  case done =>
    rintro D W hD ⟨⟨v, a1, a2⟩, a3, a4, a5⟩ hK
    rw [HLEN.out] at a1 a2
    rw [List.take_length] at a1 a2
    have c1 : W.cell? ⟨w.heap.size + 1, 0, none⟩ = some v := a1.cell 0
    have c2 : W.cell? ⟨w.heap.size + 1, 1, none⟩ = some (.int .i64 (lastOf L)) := a1.cell 1
    have c3 : W.cell? ⟨w.heap.size, 0, none⟩ = some (.slice none 0 0) := a3.cell 0
    have c4 : W.cell? ⟨w.heap.size, 1, none⟩ = some (.int .i64 0) := a3.cell 1
    have f3 := a3.frozen 0
    have f4 := a3.frozen 1
    obtain ⟨ad, cap, rfl⟩ := owns_slice a2
    gi_wp2
    have g1 : ((W.setCell ⟨w.heap.size, 0, none⟩ (.slice ad L.length cap)).setCell ⟨w.heap.size, 1, none⟩ (.int .i64 (lastOf L))).heap[D]? = some (.deferred (some [])) :=
      ((KeepsOthers.setCell _ _ _).same D _ ((KeepsOthers.setCell _ _ _).same D _ hK rfl) rfl)
    have g2 := (a3.set (j := 0) (.slice ad L.length cap)).set (j := 1) (.int .i64 (lastOf L))
    have g3 : ((W.setCell ⟨w.heap.size, 0, none⟩ (.slice ad L.length cap)).setCell ⟨w.heap.size, 1, none⟩ (.int .i64 (lastOf L))).ownsRow w.heap.size 319 2 (.slice ad L.length cap) L.length (ltCells L) := by
      have t1 := owns_set a2 a3 (by decide) 0 (.slice ad L.length cap)
      exact owns_set t1 (a3.set (j := 0) _) (by decide) 1 _
    have g4 : Below w.heap.size w ((W.setCell ⟨w.heap.size, 0, none⟩ (.slice ad L.length cap)).setCell ⟨w.heap.size, 1, none⟩ (.int .i64 (lastOf L))) :=
      (a5.setCell (p := ⟨w.heap.size, 0, none⟩) (Nat.le_refl _) _).setCell (p := ⟨w.heap.size, 1, none⟩) (Nat.le_refl _) _
    revert g1 g2 g3 g4
    generalize (W.setCell ⟨w.heap.size, 0, none⟩ (.slice ad L.length cap)).setCell ⟨w.heap.size, 1, none⟩ (.int .i64 (lastOf L)) = W5
    intro g1 g2 g3 g4
    refine ⟨by simp, .inl ⟨_, _, rfl, run_takeDeferred g1, ?_⟩⟩
    have hne : w.heap.size ≠ D := by simp at hD; omega
    refine ⟨_, results_cell_row (p := 2) (ty := 316) rfl _ _ w.heap.size 316 #[.slice ad L.length cap, .int .i64 (lastOf L)] (0, 0) _ rfl ((World.putObj_heap_other hne).trans g2) Tryz.underlying316 rfl size61, .slice ad L.length cap, rfl, ownsRow_putObj g3 _ g1 rfl, ?_⟩
    exact g4.trans (belowK_b (w := w) (Nat.le_refl _) W5 D _ _ (by simp at hD; omega) g1 rfl rfl)

theorem read_any (s : ByteArray) (hs : s.size < 35184372088832) (w : World) :
    Calls Tryz.prog 251 #[.string s] w fun e w' => ∃ v, e = .returned (.agg #[v, .int .i64 (lastOf (letts s.data.toList))]) ∧
      w'.ownsRow w.heap.size 319 2 v (letts s.data.toList).length (ltCells (letts s.data.toList)) ∧ Below w.heap.size w w' := callsIn_wide.1 (read_in 3 (Nat.le_refl _) s hs w)
end Go.Proofs.YtfafhjglcaikoaaGreatDoor
/-! DERIVED: THE SHELF's CONTRACTS AT THIS DUMP, IN PLAIN WORDS (tools/lay-plain.mjs out of 'YtfafhjglcaikoaaGreatDoorLShelf.lean', which tools/lay-shelf.mjs wrote): THE SAME DECLARATIONS UNDER THE SAME NAMES: 'import', 'namespace', 'open', 'def', 'theorem' AND NOTHING ELSE: no command of the shelf's: FOR A HAND-IN. Each laying: the table of numbers ('.._ren') and one theorem, a field a fact of the dump's own or the kernel's comparison; each contract: ONE APPLICATION. -/
namespace Go.Proofs
open Go.Shelf
def Tryz.lays169_ren : Go.Shelf.Ren := ⟨fun | 169 => 238 | n => n, fun | 70 => 297 | 9 => 9 | 0 => 0 | 72 => 300 | 37 => 298 | 127 => 333 | 3 => 3 | 5 => 5 | n => n, fun | n => n⟩
theorem Tryz.lays169 : Go.Proofs.Lays.n169 Tryz.prog Tryz.lays169_ren := {
  mixed := by kernel_rfl
  f169 := Tryz.func238.trans (congrArg some (by kernel_rfl))
  t0 := Tryz.underlying0
  a0 := Tryz.isAgg0
  z0 := Tryz.sizeOf0
  v0 := Tryz.zeroValue0
  t3 := Tryz.underlying3
  a3 := Tryz.isAgg3
  z3 := Tryz.sizeOf3
  v3 := Tryz.zeroValue3
  t9 := Tryz.underlying9
  a9 := Tryz.isAgg9
  z9 := Tryz.sizeOf9
  v9 := Tryz.zeroValue9
  t37 := Tryz.underlying298
  a37 := Tryz.isAgg298
  z37 := Tryz.sizeOf298
  v37 := Tryz.zeroValue298
  t70 := Tryz.underlying297
  a70 := Tryz.isAgg297
  z70 := Tryz.sizeOf297
  v70 := Tryz.zeroValue297
  t72 := Tryz.underlying300
  a72 := Tryz.isAgg300
  z72 := Tryz.sizeOf300
  v72 := Tryz.zeroValue300
  t127 := Tryz.underlying333
  a127 := Tryz.isAgg333
  z127 := Tryz.sizeOf333
  v127 := Tryz.zeroValue333 }
theorem Tryz.Builder_Extra_169 : Builder.Extra Tryz.prog Tryz.lays169_ren := {
  sizeBuilder := by kernel_rfl
  liesBuilder := by kernel_rfl
  t5 := Tryz.underlying5
  a5 := Tryz.isAgg5
  z5 := Tryz.sizeOf5
  v5 := Tryz.zeroValue5
  infoByte := by kernel_rfl
  cellsByte := by kernel_rfl
  sizeByte := by kernel_rfl
  neB5 := by decide }
def Tryz.lays137_ren : Go.Shelf.Ren := ⟨fun | 137 => 188 | 217 => 231 | 266 => 272 | n => n, fun | 9 => 9 | 5 => 5 | 3 => 3 | n => n, fun | n => n⟩
theorem Tryz.lays137 : Go.Proofs.Lays.n137 Tryz.prog Tryz.lays137_ren := {
  mixed := by kernel_rfl
  f137 := Tryz.func188.trans (congrArg some (by kernel_rfl))
  f217 := Tryz.func231.trans (congrArg some (by kernel_rfl))
  f266 := Tryz.func272.trans (congrArg some (by kernel_rfl))
  t3 := Tryz.underlying3
  a3 := Tryz.isAgg3
  z3 := Tryz.sizeOf3
  v3 := Tryz.zeroValue3
  t5 := Tryz.underlying5
  a5 := Tryz.isAgg5
  z5 := Tryz.sizeOf5
  v5 := Tryz.zeroValue5
  t9 := Tryz.underlying9
  a9 := Tryz.isAgg9
  z9 := Tryz.sizeOf9
  v9 := Tryz.zeroValue9 }
open Go.RowKit in
/-- strings.IndexByte: "IndexByte returns the index of the first instance of c in s, or -1 if c is not present in s.": IT RETURNS 'Lib.indexByte s c'; the world is as it was. (LAID: no walk: one application.) -/
theorem Tryz.strings_IndexByte (s : ByteArray) (c : Int) (w : World) :
    Calls Tryz.prog 188 #[.string s, .int .u8 c] w fun e w' => e = .returned (.int .i64 (Lib.indexByte s.data.toList c.toNat.toUInt8)) ∧ w' = w := Any.strings_IndexByte Tryz.lays137 s c w
open Go.RowKit in
/-- (*strings.Builder).String: "String returns the accumulated string.": WHATEVER THE BUILDER HOLDS; THE FORM '_k': OVER 'Lib.IsBuilderF' (a builder that 'String()' may have read), AND WITH THE FRAME THAT REACHES ABOVE THE BUILDER: 'Lib.OthersKept': every block that is not b and is no row of uint8's stands as it stood: the iterator of a range among them. (LAID: no walk: one application.) -/
theorem Tryz.Builder_String_any_k (B b : Nat) (l : List UInt8) (w : World) (h : Lib.IsBuilderF 300 5 B b (Lib.byteCells l) w) (hBw : B ≤ w.heap.size) :
    Calls Tryz.prog 238 #[.pointer (some ⟨b, 0, none⟩)] w fun e w' => e = .returned (.string ⟨l.toArray⟩) ∧ (Lib.IsBuilderF 300 5 B b (Lib.byteCells l) w' ∧ Below B w w' ∧ Lib.OthersKept 5 (some b) w w') := Any.Builder_String_any_k Tryz.lays169 Tryz.Builder_Extra_169 B b l w h hBw
end Go.Proofs
namespace Go.Proofs.YtfafhjglcaikoaaGreatDoor
open Go.RowKit Go.Shelf

/-- Block b is a builder that holds these bytes, in a row of the call's own. -/
def Bld (W : World) (B b : Nat) (l : List UInt8) : Prop :=
  B ≤ b ∧ ∃ p v, (p = .pointer none ∨ p = .pointer (some ⟨b, 0, none⟩)) ∧ Cel W b 300 #[p, v] ∧ W.ownsRow B 5 1 v l.length (Lib.byteCells l)

theorem size46L : (Tryz.prog.info? 300).map (·.size) = some 2 := by kernel_rfl
theorem lies46 : liesAt Tryz.prog Tryz.prog.depth 300 (2 / Tryz.prog.cellsOf 300) 0 300 1 = true := by kernel_rfl
theorem info5 : (Tryz.prog.info? 5).map (fun i => (i.zero, i.size, i.bytes)) = some (some (.int .u8 0), 1, 1) := by kernel_rfl

set_option maxHeartbeats 1000000 in
set_option maxRecDepth 100000 in
theorem copyCheck_used (b : Nat) (w : World) (h0 : w.cell? ⟨b, 0, none⟩ = some (.pointer (some ⟨b, 0, none⟩))) :
    Calls Tryz.prog 274 #[.pointer (some ⟨b, 0, none⟩)] w fun e w' => e = .returned (.tuple #[]) ∧ w' = w := by
  obtain ⟨j, hj, _⟩ := Option.map_eq_some_iff.1 size46L
  go_enter Tryz.func274, Tryz.ntmps274
  go_wp2
  rw [Lib.run_neq_ptr_same w _ Tryz.underlying297 hj]
  go_wp2
  go_end0
  exact ⟨rfl, rfl⟩

set_option maxHeartbeats 1000000 in
set_option maxRecDepth 100000 in
theorem copyCheck_fresh (b : Nat) (w : World) (h0 : w.cell? ⟨b, 0, none⟩ = some (.pointer none)) (hsh : w.shape? b = some (300, 2)) (hfz : w.frozen? ⟨b, 0, none⟩ = false) :
    Calls Tryz.prog 274 #[.pointer (some ⟨b, 0, none⟩)] w fun e w' => e = .returned (.tuple #[]) ∧ w' = w.setCell ⟨b, 0, none⟩ (.pointer (some ⟨b, 0, none⟩)) := by
  obtain ⟨j, hj, hjs⟩ := Option.map_eq_some_iff.1 size46L
  go_enter Tryz.func274, Tryz.ntmps274
  go_wp2
  rw [Lib.run_to_unsafe w ⟨b, 0, none⟩ Tryz.underlying297 Tryz.underlying349 hj (by rw [hjs]; decide) hsh (Nat.zero_lt_succ 1)]
  simp only [Result.andThen]
  rw [Oper.upon_value]
  go_wp2
  rw [run_callFunc_extern Tryz.func294 (by kernel_rfl) (by kernel_rfl) (by kernel_rfl) (e := Extern.AbiNoEscape.same) (by kernel_rfl)]
  rw [Lib.run_noEscape]
  simp only [Result.andThen]
  rw [Oper.upon_value]
  go_wp2
  rw [Lib.run_from_unsafe w ⟨b, 0, none⟩ Tryz.underlying349 Tryz.underlying297 hj hsh lies46]
  simp only [Result.andThen]
  rw [Oper.upon_value]
  go_wp2
  go_end0
  exact ⟨rfl, rfl⟩

/-- What a writer leaves: below B all as it was; what is no cells as it was; cells of another kind than bytes as they were, but the builder's. -/
def Bk (B b : Nat) (W W' : World) : Prop := Below B W W' ∧ KeepsOthers W W' ∧ ∀ b' t' cs', Cel W b' t' cs' → t' ≠ 5 → b' ≠ b → Cel W' b' t' cs'
theorem Bk.trans {B b : Nat} {X Y Z : World} (h : Bk B b X Y) (k : Bk B b Y Z) : Bk B b X Z :=
  ⟨h.1.trans k.1, h.2.1.trans k.2.1, fun b' t' cs' hc ht hb => k.2.2 b' t' cs' (h.2.2 b' t' cs' hc ht hb) ht hb⟩

theorem copyCheck_bld (B b : Nat) (l : List UInt8) (w : World) (h : Bld w B b l) :
    Calls Tryz.prog 274 #[.pointer (some ⟨b, 0, none⟩)] w fun e w' => e = .returned (.tuple #[]) ∧ (∃ v, Cel w' b 300 #[.pointer (some ⟨b, 0, none⟩), v] ∧ w'.ownsRow B 5 1 v l.length (Lib.byteCells l)) ∧ Bk B b w w' := by
  obtain ⟨hB, p, v, rfl | rfl, hc, ho⟩ := h
  · refine (copyCheck_fresh b w (hc.cell 0) (by simp [World.shape?, show w.heap[b]? = _ from hc]) (hc.frozen 0)).mono ?_
    rintro e w' ⟨rfl, rfl⟩
    refine ⟨rfl, ⟨v, hc.set _, owns_set ho hc (by decide) 0 _⟩, (Below.refl B w).setCell (p := ⟨b, 0, none⟩) hB _, KeepsOthers.setCell _ _ _, fun b' t' cs' h1 _ h3 => h1.other h3 _⟩
  · refine (copyCheck_used b w (hc.cell 0)).mono ?_
    rintro e w' ⟨rfl, rfl⟩
    exact ⟨rfl, ⟨v, hc, ho⟩, Below.refl _ _, KeepsOthers.refl _, fun _ _ _ h1 _ _ => h1⟩

/-- The same as 'Cel.appended' where nothing is laid for what is appended. -/
theorem Cel.appended0 {W w1 : World} {n₀ b j : Nat} {t e : TypeId} {size : Nat} {cs : Array Value} {v v' : Value} {k m : Nat} {xs ys : List Value}
    (hv : Cel W b t cs) (hte : t ≠ e) (hrow : W.ownsRow n₀ e size v k xs) (hn₀ : n₀ ≤ W.heap.size) (hB : n₀ ≤ b)
    (hown' : w1.ownsRow n₀ e size v' m ys) (hgrow : W.grownBy w1 v.ownBlock) :
    Cel w1 b t cs ∧ Cel (w1.setCell ⟨b, j, none⟩ v') b t (cs.setIfInBounds j v') ∧ (w1.setCell ⟨b, j, none⟩ v').ownsRow n₀ e size v' m ys ∧ KeepsOthers W (w1.setCell ⟨b, j, none⟩ v') ∧ Below n₀ W (w1.setCell ⟨b, j, none⟩ v') ∧
      (∀ b' t' cs', Cel W b' t' cs' → t' ≠ e → b' ≠ b → Cel (w1.setCell ⟨b, j, none⟩ v') b' t' cs') := by
  have hv1 : Cel w1 b t cs := hv.kept hgrow (hv.not_row hte hrow)
  refine ⟨hv1, hv1.set v', owns_set hown' hv1 hte j v', ?_, ?_, ?_⟩
  · refine (KeepsOthers.of_grownBy hgrow fun q o ej hj => ?_).trans (KeepsOthers.setCell _ _ _)
    rcases hrow.2 with ⟨rfl, _⟩ | ⟨g, cap, cur, rfl, _, hgb, _⟩
    · simp [Value.ownBlock] at ej
    · obtain rfl : g = q := by simpa [Value.ownBlock] using ej
      rw [hgb] at hj; cases hj; rfl
  · refine ((Below.refl n₀ W).grown hgrow hn₀ fun q ej => ?_).setCell (p := ⟨b, j, none⟩) hB v'
    rcases hrow.2 with ⟨rfl, _⟩ | ⟨g, cap, cur, rfl, hb, _, _⟩
    · simp [Value.ownBlock] at ej
    · obtain rfl : g = q := by simpa [Value.ownBlock] using ej
      exact hb
  · intro b' t' cs' h' ht hb'
    exact (h'.kept hgrow (h'.not_row ht hrow)).other hb' v'

set_option maxHeartbeats 2000000 in
set_option maxRecDepth 100000 in
theorem writeByte_bld (B b : Nat) (l : List UInt8) (c : UInt8) (w : World) (h : Bld w B b l) (hl : l.length < 70368744177664) (hBw : B ≤ w.heap.size) :
    Calls Tryz.prog 285 #[.pointer (some ⟨b, 0, none⟩), .int .u8 c.toNat] w fun e w' => e = .returned .nilIface ∧ Bld w' B b (l ++ [c]) ∧ Bk B b w w' := by
  obtain ⟨i0, hi, hz0, hz1, hz2⟩ := info_parts info5
  have hB := h.1
  go_enter Tryz.func285, Tryz.ntmps285
  go_wp2_with (go_at_call 274; refine (copyCheck_bld B b l _ h).mono ?_)
  rintro e w1 ⟨rfl, ⟨v, hc, ho⟩, hk⟩
  have hBw1 : B ≤ w1.heap.size := Nat.le_trans hBw hk.1.size
  have c0 : w1.cell? ⟨b, 0, none⟩ = some (.pointer (some ⟨b, 0, none⟩)) := hc.cell 0
  have c1 : w1.cell? ⟨b, 1, none⟩ = some v := hc.cell 1
  go_wp2_with (at_builtin; refine wpList_append_own _ rfl _ _ 298 rfl B 5 i0 (.int .u8 0) 1 1 Tryz.underlying298 hi hz0 hz1 hz2 rfl (by decide) _ _ _ rfl (ho.alloc _) ⟨w1.heap.size, 0, none⟩ 1 1 [.int .u8 c.toNat] rfl rfl (cells_new _ [.int .u8 c.toNat] _) (by simp [Value.oneCell']) (by have := maxLen_big; omega) (by omega) (by simp; omega) ?_)
  intro v' w2 hown' hgrow _
  obtain ⟨g', cap', rfl⟩ := ownsRow_succ hown'
  obtain ⟨r1, r2, r3, r4, r5, r6⟩ := hc.appended (j := 1) (by decide) ho hBw1 hB hown' hgrow
  have d0 : w2.cell? ⟨b, 0, none⟩ = some (.pointer (some ⟨b, 0, none⟩)) := r1.cell 0
  have d1 : w2.cell? ⟨b, 1, none⟩ = some v := r1.cell 1
  have f1 := r1.frozen 1
  go_wp2
  go_ret
  refine ⟨rfl, ⟨hB, _, _, .inr rfl, r2, ?_⟩, hk.trans ⟨r5, r4, r6⟩⟩
  simpa [Lib.byteCells] using r3

set_option maxHeartbeats 2000000 in
set_option maxRecDepth 100000 in
theorem writeString_bld (B b : Nat) (l : List UInt8) (s : ByteArray) (w : World) (h : Bld w B b l) (hl : l.length + s.size < 70368744177664) (hBw : B ≤ w.heap.size) :
    Calls Tryz.prog 237 #[.pointer (some ⟨b, 0, none⟩), .string s] w fun e w' => e = .returned (.tuple #[.int .i64 s.size, .nilIface]) ∧ Bld w' B b (l ++ s.data.toList) ∧ Bk B b w w' := by
  obtain ⟨i0, hi, hz0, hz1, hz2⟩ := info_parts info5
  have hB := h.1
  go_enter Tryz.func237, Tryz.ntmps237
  go_wp2_with (go_at_call 274; refine (copyCheck_bld B b l _ h).mono ?_)
  rintro e w1 ⟨rfl, ⟨v, hc, ho⟩, hk⟩
  have hBw1 : B ≤ w1.heap.size := Nat.le_trans hBw hk.1.size
  have c0 : w1.cell? ⟨b, 0, none⟩ = some (.pointer (some ⟨b, 0, none⟩)) := hc.cell 0
  have c1 : w1.cell? ⟨b, 1, none⟩ = some v := hc.cell 1
  go_wp2_with (at_builtin; refine Lib.wpList_append_own_string _ rfl _ _ 298 9 rfl B 5 i0 Tryz.underlying298 Tryz.underlying9 hi hz0 hz1 hz2 _ _ _ rfl ho s rfl (by have := maxLen_big; omega) (by omega) hBw1 ?_)
  intro v' w2 hown' hgrow _
  obtain ⟨ad, cap', rfl⟩ := owns_slice hown'
  obtain ⟨r1, r2, r3, r4, r5, r6⟩ := hc.appended0 (j := 1) (by decide) ho hBw1 hB hown' hgrow
  have d0 : w2.cell? ⟨b, 0, none⟩ = some (.pointer (some ⟨b, 0, none⟩)) := r1.cell 0
  have d1 : w2.cell? ⟨b, 1, none⟩ = some v := r1.cell 1
  have f1 := r1.frozen 1
  go_wp2
  go_ret2
  refine ⟨rfl, ⟨hB, _, _, .inr rfl, r2, ?_⟩, hk.trans ⟨r5, r4, r6⟩⟩
  have e1 : (l ++ s.data.toList).length = l.length + s.size := by simp
  have e2 : Lib.byteCells (l ++ s.data.toList) = Lib.byteCells l ++ Lib.strCells s := by simp [Lib.byteCells, Lib.strCells]
  rw [e1, e2]; exact r3

/-- The builder's text. -/
theorem string_bld (B b : Nat) (l : List UInt8) (w : World) (h : Bld w B b l) (hBw : B ≤ w.heap.size) :
    Calls Tryz.prog 238 #[.pointer (some ⟨b, 0, none⟩)] w fun e w' => e = .returned (.string ⟨l.toArray⟩) ∧ Below B w w' ∧ Lib.OthersKept 5 (some b) w w' := by
  obtain ⟨hB, p, v, hp, hc, ho⟩ := h
  have hF : Lib.IsBuilderF 300 5 B b (Lib.byteCells l) w := by
    have h1 : w.ownsRowF B 5 1 v (Lib.byteCells l).length (Lib.byteCells l) := by rw [Lib.byteCells_length]; exact World.ownsRowF_of ho
    have h2 : v.ownBlock ≠ some b := (hc.not_row (by decide) ho).symm
    rcases hp with rfl | rfl
    · exact .inl ⟨hB, v, hc, h1, h2⟩
    · exact .inr ⟨hB, v, hc, h1, h2⟩
  exact (Tryz.Builder_String_any_k B b l w hF hBw).mono fun e w' h => ⟨h.1, h.2.2.1, h.2.2.2⟩

end Go.Proofs.YtfafhjglcaikoaaGreatDoor
