/- Plain facts on live text and patterns, over lists of bytes; nothing of the program is in it. -/
import Derived.Lib.Strings
namespace Go.Proofs.YtdajacodfnidfaaGreatDoor

/-- A letter of live text: its byte, and whether it is alive. -/
abbrev Lt := UInt8 × Bool

/-- The letters of a text. -/
def letts : List UInt8 → List Lt
  | [] => []
  | [c] => [(c, c != 92)]
  | c :: d :: r => if c = 92 then (d, false) :: letts r else (c, true) :: letts (d :: r)
/-- The first letter, and how many bytes it takes. -/
def headL : List UInt8 → Lt
  | [] => (0, false)
  | [c] => (c, c != 92)
  | c :: d :: _ => if c = 92 then (d, false) else (c, true)
def headW : List UInt8 → Nat
  | [] => 1
  | [_] => 1
  | c :: _ :: _ => if c = 92 then 2 else 1

theorem headW_pos (l : List UInt8) : 1 ≤ headW l := by
  match l with
  | [] => simp [headW]
  | [_] => simp [headW]
  | c :: d :: r => simp only [headW]; split <;> omega
theorem headW_le (l : List UInt8) (h : l ≠ []) : headW l ≤ l.length := by
  match l, h with
  | [_], _ => simp [headW]
  | c :: d :: r, _ => simp only [headW, List.length_cons]; split <;> omega
theorem letts_step (l : List UInt8) (h : l ≠ []) : letts l = headL l :: letts (l.drop (headW l)) := by
  match l, h with
  | [c], _ => simp [letts, headL, headW]
  | c :: d :: r, _ =>
    by_cases e : c = 92
    · simp [letts, headL, headW, e]
    · simp [letts, headL, headW, e]
theorem letts_nil : letts [] = [] := rfl
theorem letts_length_le : ∀ l : List UInt8, (letts l).length ≤ l.length
  | [] => by simp [letts]
  | [c] => by simp [letts]
  | c :: d :: r => by
    have h1 := letts_length_le r
    have h2 := letts_length_le (d :: r)
    unfold letts
    split
    · simp; omega
    · simp at h2 ⊢; omega

/-- The letters, each with its place. -/
def placed : Nat → List UInt8 → List (Nat × Lt)
  | _, [] => []
  | i, [c] => [(i, (c, c != 92))]
  | i, c :: d :: r => if c = 92 then (i, (d, false)) :: placed (i + 2) r else (i, (c, true)) :: placed (i + 1) (d :: r)
theorem placed_step (i : Nat) (l : List UInt8) (h : l ≠ []) : placed i l = (i, headL l) :: placed (i + headW l) (l.drop (headW l)) := by
  match l, h with
  | [c], _ => simp [placed, headL, headW]
  | c :: d :: r, _ =>
    by_cases e : c = 92
    · simp [placed, headL, headW, e]
    · simp [placed, headL, headW, e]
theorem placed_nil (i : Nat) : placed i [] = [] := rfl
theorem placed_snd (l : List UInt8) : ∀ i, (placed i l).map Prod.snd = letts l := by
  induction l using letts.induct with
  | case1 => intro i; rfl
  | case2 c => intro i; rfl
  | case3 d r ih => intro i; simp [placed, letts, ih]
  | case4 c d r h ih => intro i; simp [placed, letts, h, ih]

/-- A blank. -/
def blankC (c : UInt8) : Bool := c == 32 || c == 9 || c == 10
/-- The letters, each with the bytes that it is written with. -/
def chunks : List UInt8 → List (List UInt8 × Lt)
  | [] => []
  | [c] => [([c], (c, c != 92))]
  | c :: d :: r => if c = 92 then ([c, d], (d, false)) :: chunks r else ([c], (c, true)) :: chunks (d :: r)
theorem chunks_step (l : List UInt8) (h : l ≠ []) : chunks l = (l.take (headW l), headL l) :: chunks (l.drop (headW l)) := by
  match l, h with
  | [c], _ => simp [chunks, headL, headW]
  | c :: d :: r, _ =>
    by_cases e : c = 92
    · simp [chunks, headL, headW, e]
    · simp [chunks, headL, headW, e]
theorem headW_alive (l : List UInt8) (h : (headL l).2 = true) : headW l = 1 := by
  match l, h with
  | [_], _ => rfl
  | c :: d :: r, h =>
    by_cases e : c = 92
    · simp [headL, e] at h
    · simp [headW, e]
  | [], h => rfl
/-- A part, if it is not empty. -/
def one (acc : List UInt8) : List (List UInt8) := if acc = [] then [] else [acc]
/-- The parts between living blanks, the first begun already. -/
def splitR : List UInt8 → List (List UInt8 × Lt) → List (List UInt8)
  | acc, [] => one acc
  | acc, (raw, l) :: r => if l.2 && blankC l.1 then one acc ++ splitR [] r else splitR (acc ++ raw) r
def splitL (l : List UInt8) : List (List UInt8) := splitR [] (chunks l)

/-- Is the letter c, alive? -/
def isL (l : Lt) (c : UInt8) : Bool := l.2 && l.1 == c

/-- The place of the last living closing bracket, or 0. -/
def lastOf : List Lt → Nat := fun l => (l.zipIdx.foldl (fun a p => if isL p.1 93 then p.2 else a) 0)
theorem lastOf_nil : lastOf [] = 0 := rfl
theorem lastOf_snoc (l : List Lt) (x : Lt) : lastOf (l ++ [x]) = if isL x 93 then l.length else lastOf l := by
  simp [lastOf, List.zipIdx_append, List.foldl_append]
theorem snocInd {α : Type} {p : List α → Prop} (h0 : p []) (h1 : ∀ l x, p l → p (l ++ [x])) : ∀ l, p l := by
  intro l
  have h : p l.reverse.reverse := by
    induction l.reverse with
    | nil => exact h0
    | cons x r ih => rw [List.reverse_cons]; exact h1 _ _ ih
  simpa using h
theorem lastOf_lt (l : List Lt) : lastOf l = 0 ∨ lastOf l < l.length := by
  induction l using snocInd with
  | h0 => left; rfl
  | h1 l x ih => rw [lastOf_snoc]; split <;> simp <;> omega
theorem lastOf_is (l : List Lt) : 0 < lastOf l → ∃ x, l[lastOf l]? = some x ∧ isL x 93 = true := by
  induction l using snocInd with
  | h0 => intro h; simp [lastOf_nil] at h
  | h1 l x ih =>
    intro h
    rw [lastOf_snoc] at h ⊢
    by_cases e : isL x 93 = true
    · rw [if_pos e]; exact ⟨x, by simp, e⟩
    · rw [if_neg e] at h ⊢
      obtain ⟨y, h1, h2⟩ := ih h
      refine ⟨y, ?_, h2⟩
      rw [List.getElem?_append_left (List.getElem?_eq_some_iff.1 h1).1]
      exact h1
theorem lastOf_ge (l : List Lt) : ∀ k x, l[k]? = some x → isL x 93 = true → k ≤ lastOf l := by
  induction l using snocInd with
  | h0 => intro k x h; simp at h
  | h1 l x ih =>
    intro k y h hy
    rw [lastOf_snoc]
    have hk := (List.getElem?_eq_some_iff.1 h).1
    simp at hk
    by_cases e : k = l.length
    · subst e
      rw [List.getElem?_append_right (Nat.le_refl _)] at h
      simp at h
      subst h
      rw [if_pos hy]; exact Nat.le_refl _
    · rw [List.getElem?_append_left (by omega)] at h
      have := ih k y h hy
      split
      · omega
      · exact this
/-- Does what opens at i close? -/
theorem last_iff (l : List Lt) (i : Nat) : i + 1 < lastOf l ↔ (l.drop (i + 2)).any (isL · 93) = true := by
  rw [List.any_eq_true]
  constructor
  · intro h
    obtain ⟨x, h1, h2⟩ := lastOf_is l (by omega)
    refine ⟨x, ?_, h2⟩
    refine List.mem_of_getElem? (i := lastOf l - (i + 2)) ?_
    rw [List.getElem?_drop, show i + 2 + (lastOf l - (i + 2)) = lastOf l by omega]
    exact h1
  · rintro ⟨x, h1, h2⟩
    obtain ⟨k, hk⟩ := List.getElem?_of_mem h1
    rw [List.getElem?_drop] at hk
    have := lastOf_ge l _ x hk h2
    omega

/-- Is a pattern byte in it? -/
def liveR : List Lt → Bool
  | [] => false
  | x :: r => (isL x 42 || isL x 63 || (isL x 91 && (r.drop 1).any (isL · 93))) || liveR r

/-! Sets of bytes, as what is in them. -/
def setNo : Nat → Bool := fun _ => false
def setNot (f : Nat → Bool) : Nat → Bool := fun c => !f c
def setAdd (f : Nat → Bool) (a b : Nat) : Nat → Bool := fun c => f c || (decide (a ≤ c) && decide (c ≤ b))

/-- The number whose bits below n are those of g. -/
def bitsN (g : Nat → Bool) : Nat → Nat
  | 0 => 0
  | n + 1 => bitsN g n + (if g n then 2 ^ n else 0)
theorem bitsN_lt (g : Nat → Bool) : ∀ n, bitsN g n < 2 ^ n
  | 0 => by simp [bitsN]
  | n + 1 => by
    have := bitsN_lt g n
    unfold bitsN
    rw [Nat.pow_succ]
    split <;> omega
theorem bitsN_testBit (g : Nat → Bool) : ∀ n i, (bitsN g n).testBit i = (decide (i < n) && g i)
  | 0, i => by simp [bitsN]
  | n + 1, i => by
    have ih := bitsN_testBit g n i
    have hlt := bitsN_lt g n
    unfold bitsN
    by_cases hg : g n = true
    · rw [if_pos hg, Nat.add_comm]
      by_cases h1 : i < n
      · rw [Nat.testBit_two_pow_add_gt h1, ih]; simp [h1]; omega
      · by_cases h2 : i = n
        · subst h2
          rw [Nat.testBit_two_pow_add_eq, ih]; simp [hg]
        · have : 2 ^ n + bitsN g n < 2 ^ i := by
            have h3 : 2 ^ (n + 1) ≤ 2 ^ i := Nat.pow_le_pow_right (by omega) (by omega)
            rw [Nat.pow_succ] at h3
            omega
          rw [Nat.testBit_lt_two_pow this]
          simp; omega
    · rw [if_neg hg, Nat.add_zero, ih]
      by_cases h1 : i < n
      · simp [h1]; omega
      · by_cases h2 : i = n
        · subst h2; simp; simpa using hg
        · have : ¬ i < n + 1 := by omega
          simp [h1, this]
/-- Word j of a set. -/
def wordOf (f : Nat → Bool) (j : Nat) : Nat := bitsN (fun b => f (64 * j + b)) 64
theorem wordOf_lt (f : Nat → Bool) (j : Nat) : wordOf f j < 2 ^ 64 := bitsN_lt _ _
theorem wordOf_testBit (f : Nat → Bool) (j i : Nat) : (wordOf f j).testBit i = (decide (i < 64) && f (64 * j + i)) := bitsN_testBit _ _ _
theorem wordOf_no (j : Nat) : wordOf setNo j = 0 := by
  apply Nat.eq_of_testBit_eq; intro i; rw [wordOf_testBit]; simp [setNo]
theorem wordOf_not (f : Nat → Bool) (j : Nat) : wordOf (setNot f) j = 2 ^ 64 - 1 - wordOf f j := by
  apply Nat.eq_of_testBit_eq
  intro i
  rw [wordOf_testBit, show 2 ^ 64 - 1 - wordOf f j = 2 ^ 64 - (wordOf f j + 1) by omega, Nat.testBit_two_pow_sub_succ (wordOf_lt f j), wordOf_testBit]
  by_cases h : i < 64 <;> simp [h, setNot]
theorem wordOf_has (f : Nat → Bool) (c : Nat) : ((wordOf f (c / 64)) >>> (c % 64)) % 2 = if f c then 1 else 0 := by
  have h := wordOf_testBit f (c / 64) (c % 64)
  have hm : c % 64 < 64 := Nat.mod_lt _ (by omega)
  rw [Nat.div_add_mod] at h
  simp [hm] at h
  rw [Nat.testBit_eq_decide_div_mod_eq] at h
  rw [Nat.shiftRight_eq_div_pow]
  by_cases e : f c = true
  · rw [e] at h; rw [if_pos e]; simpa using h
  · have e' : f c = false := by simpa using e
    rw [e'] at h; rw [if_neg e]; simp at h; omega
theorem wordOf_add1 (f : Nat → Bool) (c j : Nat) : wordOf (setAdd f c c) j = if j = c / 64 then wordOf f j ||| 2 ^ (c % 64) else wordOf f j := by
  apply Nat.eq_of_testBit_eq
  intro i
  have hm : c % 64 < 64 := Nat.mod_lt _ (by omega)
  have hd := Nat.div_add_mod c 64
  by_cases e : j = c / 64
  · rw [if_pos e, Nat.testBit_or, wordOf_testBit, wordOf_testBit, Nat.testBit_two_pow]
    by_cases h : i < 64
    · simp [h, setAdd]
      congr 1
      subst e
      by_cases h2 : c % 64 = i
      · subst h2; simp [hd]
      · simp [h2]; omega
    · simp [h]; omega
  · rw [if_neg e, wordOf_testBit, wordOf_testBit]
    by_cases h : i < 64
    · simp [h, setAdd]
      intro h1 h2
      exfalso
      apply e
      omega
    · simp [h]
theorem setAdd_succ (f : Nat → Bool) (a b : Nat) (h : a ≤ b + 1) : setAdd (setAdd f a b) (b + 1) (b + 1) = setAdd f a (b + 1) := by
  funext c
  simp only [setAdd]
  cases f c <;> simp
  by_cases h1 : a ≤ c <;> by_cases h2 : c ≤ b <;> by_cases h3 : c = b + 1 <;> simp [h1, h2, h3] <;> omega
theorem setAdd_none (f : Nat → Bool) (a b : Nat) (h : b < a) : setAdd f a b = f := by
  funext c
  simp only [setAdd]
  cases f c <;> simp
  omega

/-- What is between brackets, put in. -/
def fillS : List Lt → (Nat → Bool) → (Nat → Bool)
  | [], f => f
  | [a], f => setAdd f a.1.toNat a.1.toNat
  | [a, b], f => fillS [b] (setAdd f a.1.toNat a.1.toNat)
  | a :: b :: d :: r, f => if isL b 45 then fillS r (setAdd f a.1.toNat d.1.toNat) else fillS (b :: d :: r) (setAdd f a.1.toNat a.1.toNat)
def turnedL (l : List Lt) : Bool := decide (1 < l.length) && isL (l.headD (0, false)) 94
def amongS (l : List Lt) : Nat → Bool := if turnedL l then setNot (fillS l.tail setNo) else fillS l setNo

/-- A piece of a pattern: is it any bytes; else one byte of a set. -/
abbrev Pc := Bool × (Nat → Bool)
/-- Where a bracket's closing one stands, counted from the letter behind the one behind the bracket. -/
def closeIn (x : Lt) (r : List Lt) : Option Nat := if isL x 91 then (r.drop 1).findIdx? (isL · 93) else none
def pcs : List Lt → List Pc
  | [] => []
  | x :: r =>
    if isL x 42 then (true, setNo) :: pcs r
    else if isL x 63 then (false, setNot setNo) :: pcs r
    else match closeIn x r with
      | some k => (false, amongS (r.take (k + 1))) :: pcs (r.drop (k + 2))
      | none => (false, setAdd setNo x.1.toNat x.1.toNat) :: pcs r
termination_by l => l.length
decreasing_by all_goals simp <;> omega

/-! Matching. -/
def starM (g : List UInt8 → Bool) : List UInt8 → Bool
  | [] => g []
  | c :: s => g (c :: s) || starM g s
def mt : List Pc → List UInt8 → Bool
  | [], s => s.isEmpty
  | p :: l, s => if p.1 then starM (mt l) s else match s with
    | [] => false
    | c :: s' => p.2 c.toNat && mt l s'
theorem starM_iff (g : List UInt8 → Bool) : ∀ s, starM g s = true ↔ ∃ k, k ≤ s.length ∧ g (s.drop k) = true
  | [] => by
    simp only [starM]
    constructor
    · intro h; exact ⟨0, by simp, by simpa using h⟩
    · rintro ⟨k, _, h⟩; simpa using h
  | c :: s => by
    simp only [starM, Bool.or_eq_true, starM_iff g s]
    constructor
    · rintro (h | ⟨k, h1, h2⟩)
      · exact ⟨0, by simp, by simpa using h⟩
      · exact ⟨k + 1, by simpa using h1, by simpa using h2⟩
    · rintro ⟨k, h1, h2⟩
      cases k with
      | zero => left; simpa using h2
      | succ k => right; exact ⟨k, by simpa using h1, by simpa using h2⟩
/-- Pieces of one byte each, against as many bytes. -/
def ones : List Pc → List UInt8 → Bool
  | [], [] => true
  | p :: l, c :: s => !p.1 && p.2 c.toNat && ones l s
  | _, _ => false
theorem ones_length : ∀ l s, ones l s = true → l.length = s.length
  | [], [], _ => rfl
  | p :: l, c :: s, h => by simp [ones] at h; simp [ones_length l s h.2]
  | [], _ :: _, h => by simp [ones] at h
  | _ :: _, [], h => by simp [ones] at h
theorem mt_ones : ∀ (l : List Pc) (L : List Pc) (u S : List UInt8), ones l u = true → mt (l ++ L) (u ++ S) = mt L S
  | [], L, [], S, _ => rfl
  | p :: l, L, c :: u, S, h => by
    simp [ones] at h
    simp only [List.cons_append, mt, h.1.1, h.1.2]
    simp
    exact mt_ones l L u S h.2
  | [], _, _ :: _, _, h => by simp [ones] at h
  | _ :: _, _, [], _, h => by simp [ones] at h
/-- Pieces of one byte each take just as many bytes as they are. -/
theorem mt_ones_drop : ∀ (l : List Pc) (L : List Pc) (s : List UInt8), (∀ p ∈ l, p.1 = false) → mt (l ++ L) s = true → l.length ≤ s.length ∧ mt L (s.drop l.length) = true
  | [], L, s, _, h => ⟨by simp, by simpa using h⟩
  | p :: l, L, s, hp, h => by
    have h1 : p.1 = false := hp p (by simp)
    cases s with
    | nil => simp [mt, h1] at h
    | cons c s =>
      simp [mt, h1] at h
      have := mt_ones_drop l L s (fun q hq => hp q (by simp [hq])) h.2
      exact ⟨by simpa using this.1, by simpa using this.2⟩
theorem ones_many : ∀ l s, ones l s = true → ∀ p ∈ l, p.1 = false
  | [], [], _ => by simp
  | p :: l, c :: s, h => by
    simp [ones] at h
    intro q hq
    rcases List.mem_cons.1 hq with rfl | hq
    · exact h.1.1
    · exact ones_many l s h.2 q hq
  | [], _ :: _, h => by simp [ones] at h
  | _ :: _, [], h => by simp [ones] at h
/-- A star, pieces of one byte each that fit, another star: the first may as well take nothing. -/
theorem mt_star_star (f g : Nat → Bool) (l L : List Pc) (u S : List UInt8) (h : ones l u = true) :
    mt ((true, f) :: (l ++ (true, g) :: L)) (u ++ S) = mt ((true, g) :: L) S := by
  rw [Bool.eq_iff_iff]
  have hlen := ones_length _ _ h
  constructor
  · intro hm
    simp only [mt, if_pos] at hm
    obtain ⟨k, hk, hm⟩ := (starM_iff _ _).1 hm
    obtain ⟨h1, h2⟩ := mt_ones_drop l _ _ (ones_many _ _ h) hm
    simp only [mt, if_pos] at h2 ⊢
    obtain ⟨j, hj, h2⟩ := (starM_iff _ _).1 h2
    refine (starM_iff _ _).2 ⟨k + j, ?_, ?_⟩
    · simp at hj hk h1; omega
    · rw [List.drop_drop, List.drop_drop, show k + (l.length + j) = u.length + (k + j) by omega, ← List.drop_drop, List.drop_left' rfl] at h2
      exact h2
  · intro hm
    simp only [mt, if_pos]
    refine (starM_iff _ _).2 ⟨0, by simp, ?_⟩
    simp only [List.drop_zero]
    rw [mt_ones _ _ _ _ h]
    exact hm

/-- A star behind which all has been tried at this place takes one byte more. -/
theorem mt_star_more (f : Nat → Bool) (L : List Pc) (c : UInt8) (S : List UInt8) (h : mt L (c :: S) = false) : mt ((true, f) :: L) (c :: S) = mt ((true, f) :: L) S := by
  simp [mt, starM, h]
/-- At the end: a star, and pieces that fit all that is left for it. -/
theorem mt_star_end (f : Nat → Bool) (l L : List Pc) (u : List UInt8) (h : ones l u = true) : mt ((true, f) :: (l ++ L)) u = mt L [] := by
  have hlen := ones_length _ _ h
  rw [Bool.eq_iff_iff]
  constructor
  · intro hm
    simp only [mt, if_pos] at hm
    obtain ⟨k, hk, hm⟩ := (starM_iff _ _).1 hm
    obtain ⟨h1, h2⟩ := mt_ones_drop l _ _ (ones_many _ _ h) hm
    rw [List.drop_drop, List.drop_eq_nil_of_le (by omega)] at h2
    exact h2
  · intro hm
    simp only [mt, if_pos]
    refine (starM_iff _ _).2 ⟨0, by simp, ?_⟩
    have := mt_ones l L u [] h
    simp at this ⊢
    rw [this]; exact hm
theorem mt_nil : ∀ L : List Pc, mt L [] = L.all (·.1)
  | [] => rfl
  | p :: L => by
    cases h : p.1
    · simp [mt, h]
    · simp [mt, h, starM, mt_nil L]

/-- Where the search stands: the answer for all is the answer for what the last star may still take. -/
structure Stand (l : List Pc) (s : List UInt8) (next at_ star taken : Nat) (has : Bool) : Prop where
  next_le : next ≤ l.length
  at_le : at_ ≤ s.length
  none : has = false → mt l s = mt (l.drop next) (s.drop at_)
  some : has = true → star < next ∧ taken ≤ at_ ∧ next - (star + 1) = at_ - taken ∧ (∃ f, l[star]? = Option.some (true, f)) ∧
    mt l s = mt (l.drop star) (s.drop taken) ∧ ones ((l.drop (star + 1)).take (next - (star + 1))) ((s.drop taken).take (at_ - taken)) = true
theorem Stand.start (l : List Pc) (s : List UInt8) (star taken : Nat) : Stand l s 0 0 star taken false :=
  ⟨by simp, by simp, fun _ => by simp, fun h => by cases h⟩
theorem drop_cons {α : Type} {l : List α} {n : Nat} {x : α} (h : l[n]? = some x) : l.drop n = x :: l.drop (n + 1) := by
  obtain ⟨h1, h2⟩ := List.getElem?_eq_some_iff.1 h
  rw [List.drop_eq_getElem_cons h1, h2]
theorem Stand.parts {l : List Pc} {s : List UInt8} {next at_ star taken : Nat} (h : Stand l s next at_ star taken true) :
    ∃ f m u, l.drop star = (true, f) :: (m ++ l.drop next) ∧ s.drop taken = u ++ s.drop at_ ∧ ones m u = true ∧ m = (l.drop (star + 1)).take (next - (star + 1)) ∧ u = (s.drop taken).take (at_ - taken) := by
  obtain ⟨h1, h2, h3, ⟨f, hf⟩, h4, h5⟩ := h.some rfl
  refine ⟨f, _, _, ?_, ?_, h5, rfl, rfl⟩
  · rw [drop_cons hf]
    congr 1
    conv => lhs; rw [← List.take_append_drop (next - (star + 1)) (l.drop (star + 1))]
    rw [List.drop_drop, show star + 1 + (next - (star + 1)) = next by omega]
  · conv => lhs; rw [← List.take_append_drop (at_ - taken) (s.drop taken)]
    rw [List.drop_drop, show taken + (at_ - taken) = at_ by omega]
/-- At a star: it is the last one now. -/
theorem Stand.star {l : List Pc} {s : List UInt8} {next at_ star taken : Nat} {has : Bool} (h : Stand l s next at_ star taken has) {f : Nat → Bool} (hf : l[next]? = Option.some (true, f)) :
    Stand l s (next + 1) at_ next at_ true := by
  have hn := (List.getElem?_eq_some_iff.1 hf).1
  refine ⟨by omega, h.at_le, fun h => (by cases h), fun _ => ⟨by omega, Nat.le_refl _, by omega, ⟨f, hf⟩, ?_, by simp [ones]⟩⟩
  cases has with
  | false => exact h.none rfl
  | true =>
    obtain ⟨f', m, u, e1, e2, e3, _⟩ := h.parts
    obtain ⟨_, _, _, _, h4, _⟩ := h.some rfl
    rw [h4, e1, e2, drop_cons hf, mt_star_star f' f m _ u _ e3]
theorem ones_snoc : ∀ (m : List Pc) (u : List UInt8) (p : Pc) (c : UInt8), ones m u = true → p.1 = false → p.2 c.toNat = true → ones (m ++ [p]) (u ++ [c]) = true
  | [], [], p, c, _, h1, h2 => by simp [ones, h1, h2]
  | q :: m, d :: u, p, c, h, h1, h2 => by
    simp [ones] at h ⊢
    exact ⟨h.1, ones_snoc m u p c h.2 h1 h2⟩
  | [], _ :: _, _, _, h, _, _ => by simp [ones] at h
  | _ :: _, [], _, _, h, _, _ => by simp [ones] at h
theorem take_snoc {α : Type} {l : List α} {n : Nat} {x : α} (h : l[n]? = some x) : l.take (n + 1) = l.take n ++ [x] := by
  rw [List.take_add_one, h]; rfl
/-- A piece that takes the byte. -/
theorem Stand.one {l : List Pc} {s : List UInt8} {next at_ star taken : Nat} {has : Bool} (h : Stand l s next at_ star taken has) {p : Pc} {c : UInt8}
    (hp : l[next]? = Option.some p) (hc : s[at_]? = Option.some c) (h1 : p.1 = false) (h2 : p.2 c.toNat = true) : Stand l s (next + 1) (at_ + 1) star taken has := by
  have hn := (List.getElem?_eq_some_iff.1 hp).1
  have ha := (List.getElem?_eq_some_iff.1 hc).1
  refine ⟨by omega, by omega, fun e => ?_, fun e => ?_⟩
  · rw [h.none e, drop_cons hp, drop_cons hc]
    simp [mt, h1, h2]
  · obtain ⟨a1, a2, a3, a4, a5, a6⟩ := h.some e
    refine ⟨by omega, by omega, by omega, a4, a5, ?_⟩
    rw [show next + 1 - (star + 1) = next - (star + 1) + 1 by omega, show at_ + 1 - taken = at_ - taken + 1 by omega, take_snoc (x := p), take_snoc (x := c)]
    · exact ones_snoc _ _ _ _ a6 h1 h2
    · rw [List.getElem?_drop, show taken + (at_ - taken) = at_ by omega]; exact hc
    · rw [List.getElem?_drop, show star + 1 + (next - (star + 1)) = next by omega]; exact hp
/-- Does the piece at a place not take the byte? -/
def stuck (l : List Pc) (next : Nat) (c : UInt8) : Prop := match l[next]? with
  | some p => p.1 = false ∧ p.2 c.toNat = false
  | none => True
theorem stuck_mt {l : List Pc} {next : Nat} {c : UInt8} (S : List UInt8) (h : stuck l next c) : mt (l.drop next) (c :: S) = false := by
  unfold stuck at h
  cases hp : l[next]? with
  | none =>
    rw [List.drop_eq_nil_of_le (List.getElem?_eq_none_iff.1 hp)]; rfl
  | some p =>
    rw [hp] at h
    rw [drop_cons hp]
    simp [mt, h.1, h.2]
/-- No piece takes the byte, and there is a star: it takes one more. -/
theorem Stand.back {l : List Pc} {s : List UInt8} {next at_ star taken : Nat} (h : Stand l s next at_ star taken true) {c : UInt8} (hc : s[at_]? = Option.some c) (hs : stuck l next c) :
    Stand l s (star + 1) (taken + 1) star (taken + 1) true := by
  obtain ⟨f, m, u, e1, e2, e3, em, eu⟩ := h.parts
  obtain ⟨a1, a2, a3, a4, a5, a6⟩ := h.some rfl
  have ha := (List.getElem?_eq_some_iff.1 hc).1
  refine ⟨by have := h.next_le; omega, by omega, fun e => (by cases e), fun _ => ⟨by omega, Nat.le_refl _, by omega, a4, ?_, by simp [ones]⟩⟩
  rw [a5]
  have hne : mt (m ++ l.drop next) (u ++ s.drop at_) = false := by
    rw [mt_ones _ _ _ _ e3, drop_cons hc]; exact stuck_mt _ hs
  rw [← e2] at hne
  obtain ⟨d, hd⟩ : ∃ d, s[taken]? = Option.some d := ⟨_, List.getElem?_eq_getElem (by omega)⟩
  rw [e1]
  rw [drop_cons hd] at hne ⊢
  exact mt_star_more f _ d _ hne
theorem Stand.fails {l : List Pc} {s : List UInt8} {next at_ star taken : Nat} (h : Stand l s next at_ star taken false) {c : UInt8} (hc : s[at_]? = Option.some c) (hs : stuck l next c) : mt l s = false := by
  rw [h.none rfl, drop_cons hc]; exact stuck_mt _ hs
/-- All bytes are taken: what is left must be stars. -/
theorem Stand.ends {l : List Pc} {s : List UInt8} {next at_ star taken : Nat} {has : Bool} (h : Stand l s next at_ star taken has) (ha : at_ = s.length) : mt l s = (l.drop next).all (·.1) := by
  subst ha
  cases has with
  | false => rw [h.none rfl, List.drop_length, mt_nil]
  | true =>
    obtain ⟨f, m, u, e1, e2, e3, em, eu⟩ := h.parts
    obtain ⟨a1, a2, a3, a4, a5, a6⟩ := h.some rfl
    rw [a5, e1, e2, List.drop_length, List.append_nil, mt_star_end f m _ u e3, mt_nil]

end Go.Proofs.YtdajacodfnidfaaGreatDoor
