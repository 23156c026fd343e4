/- Plain facts on lists of bytes: lines, columns, names, numbers; nothing of the program is in it. -/
import Derived.Lib.Strings
namespace Go.Proofs.YtnapmbemoppfbaaDoor

/-- How many newlines there are. -/
def newlines (l : List UInt8) : Nat := l.count 10
/-- One more than there are newlines. -/
def lineOf (l : List UInt8) : Nat := newlines l + 1
theorem newlines_le (l : List UInt8) : newlines l ≤ l.length := List.count_le_length
/-- The column where one more byte would stand. -/
def colOf (l : List UInt8) : Nat := l.foldl (fun c b => if b = 10 then 1 else c + 1) 1

theorem lineOf_snoc (l : List UInt8) (b : UInt8) : lineOf (l ++ [b]) = lineOf l + if b = 10 then 1 else 0 := by
  unfold lineOf newlines
  rw [List.count_append]
  by_cases h : b = 10
  · subst h; simp
  · simp [h]
theorem colOf_snoc (l : List UInt8) (b : UInt8) : colOf (l ++ [b]) = if b = 10 then 1 else colOf l + 1 := by
  simp [colOf, List.foldl_append]
theorem foldl_plain : ∀ (m : List UInt8) (c : Nat), (∀ b ∈ m, b ≠ 10) → m.foldl (fun c b => if b = 10 then 1 else c + 1) c = c + m.length
  | [], c, _ => by simp
  | b :: m, c, h => by
    have hb : b ≠ 10 := h b (by simp)
    rw [List.foldl_cons, if_neg hb, foldl_plain m (c + 1) (fun x hx => h x (by simp [hx]))]
    simp; omega
theorem colOf_tail (l : List UInt8) (k : Nat) (h : ∀ b ∈ l.drop k, b ≠ 10) : colOf l = colOf (l.take k) + (l.length - k) := by
  conv => lhs; rw [← List.take_append_drop k l]
  unfold colOf
  rw [List.foldl_append, foldl_plain _ _ h]
  simp
theorem colOf_le (l : List UInt8) : 1 ≤ colOf l ∧ colOf l ≤ l.length + 1 := by
  suffices h : ∀ (m : List UInt8) (c : Nat), 1 ≤ c → 1 ≤ m.foldl (fun c b => if b = 10 then 1 else c + 1) c ∧ m.foldl (fun c b => if b = 10 then 1 else c + 1) c ≤ c + m.length by
    have := h l 1 (Nat.le_refl _); unfold colOf; omega
  intro m
  induction m with
  | nil => intro c hc; simp; exact hc
  | cons b m ih =>
    intro c hc
    rw [List.foldl_cons]
    by_cases hb : b = 10
    · rw [if_pos hb]; have := ih 1 (Nat.le_refl _); simp; omega
    · rw [if_neg hb]; have := ih (c + 1) (by omega); simp; omega
theorem lineOf_le (l : List UInt8) : 1 ≤ lineOf l ∧ lineOf l ≤ l.length + 1 := by
  have := newlines_le l
  unfold lineOf
  omega

theorem take_snoc (s : ByteArray) (k : Nat) (h : k < s.size) : s.data.toList.take (k + 1) = s.data.toList.take k ++ [s[k]] := by
  rw [List.take_succ_eq_append_getElem (by simpa using h)]; rfl
theorem drop_cons (s : ByteArray) (k : Nat) (h : k < s.size) : s.data.toList.drop k = s[k] :: s.data.toList.drop (k + 1) := by
  rw [List.drop_eq_getElem_cons (by simpa using h)]; rfl
theorem u8_eq (a b : UInt8) : a = b ↔ (a.toNat : Int) = (b.toNat : Int) := by
  constructor
  · intro h; rw [h]
  · intro h; exact UInt8.toNat_inj.1 (by omega)

/-- A byte that opens a name; one that goes on in it; a digit. -/
def digitB (c : Int) : Bool := decide (48 ≤ c ∧ c ≤ 57)
def startB (c : Int) : Bool := decide ((97 ≤ c ∧ c ≤ 122) ∨ (65 ≤ c ∧ c ≤ 90) ∨ c = 95)
def contB (c : Int) : Bool := startB c || digitB c
def cont8 (b : UInt8) : Bool := contB (b.toNat : Int)

/-- The bytes between two places, which count as the nearest end where they lie outside. -/
def sliceOf (s : ByteArray) (i j : Int) : ByteArray := s.extract (min (max i 0) s.size).toNat (min (max j 0) s.size).toNat
theorem extract_none (s : ByteArray) (a b : Nat) (h : b ≤ a) : s.extract a b = ⟨#[]⟩ := by
  rw [Lib.extract_eq, show b - a = 0 by omega]; simp
theorem sliceOf_nat (s : ByteArray) (a b : Nat) (ha : a ≤ s.size) (hb : b ≤ s.size) : sliceOf s a b = s.extract a b := by
  unfold sliceOf
  rw [show (min (max (a : Int) 0) s.size).toNat = a by omega, show (min (max (b : Int) 0) s.size).toNat = b by omega]

/-- The run of bytes of a name from a place on. -/
def runAt (s : ByteArray) (k : Nat) : List UInt8 := (s.data.toList.drop k).takeWhile cont8
def nameAt (s : ByteArray) (i : Int) : List UInt8 :=
  if h : 0 ≤ i ∧ i < s.size then (if startB ((s[i.toNat]'(by omega)).toNat : Int) then runAt s i.toNat else []) else []
theorem runAt_more (s : ByteArray) (k : Nat) (h : k < s.size) (hc : contB ((s[k]).toNat : Int) = true) : runAt s k = s[k] :: runAt s (k + 1) := by
  unfold runAt
  rw [drop_cons s k h, List.takeWhile_cons, if_pos (show cont8 s[k] = true from hc)]
theorem runAt_stop (s : ByteArray) (k : Nat) (h : k < s.size) (hc : contB ((s[k]).toNat : Int) = false) : runAt s k = [] := by
  unfold runAt
  rw [drop_cons s k h, List.takeWhile_cons, if_neg (by rw [show cont8 s[k] = false from hc]; exact Bool.false_ne_true)]
theorem runAt_end (s : ByteArray) : runAt s s.size = [] := by
  unfold runAt
  rw [List.drop_of_length_le (by simp)]; rfl
theorem seg_snoc (s : ByteArray) (a k : Nat) (h : k < s.size) (ha : a ≤ k) : (s.data.toList.drop a).take (k + 1 - a) = (s.data.toList.drop a).take (k - a) ++ [s[k]] := by
  rw [show k + 1 - a = (k - a) + 1 by omega, List.take_succ_eq_append_getElem (by simp; omega)]
  congr 1
  simp only [List.getElem_drop, Array.getElem_toList, show a + (k - a) = k by omega]
  rfl

/-- Whether all bytes may go on in a name. -/
def allCont (l : List UInt8) : Bool := l.all cont8
/-- Whether a text is a name. -/
def nameB (l : List UInt8) : Bool := decide (1 ≤ l.length ∧ l.length ≤ 20) && (match l with | b :: _ => startB (b.toNat : Int) | [] => false) && allCont l

/-- The number whose text it is. -/
def digit8 (b : UInt8) : Bool := digitB (b.toNat : Int)
def valOf (l : List UInt8) : Nat := l.foldl (fun n b => n * 10 + (b.toNat - 48)) 0
def parseV (l : List UInt8) : Option Nat :=
  if l = [] ∨ 9 < l.length ∨ (l.head? = some 48 ∧ 1 < l.length) then none else if l.all digit8 then some (valOf l) else none
theorem valOf_snoc (l : List UInt8) (b : UInt8) : valOf (l ++ [b]) = valOf l * 10 + (b.toNat - 48) := by simp [valOf, List.foldl_append]
theorem valOf_lt : ∀ (n : Nat) (l : List UInt8), l.length = n → l.all digit8 = true → valOf l < 10 ^ n
  | 0, l, h, _ => by rw [List.eq_nil_of_length_eq_zero h]; simp [valOf]
  | n + 1, l, h, hd => by
    obtain ⟨m, b, rfl⟩ : ∃ m b, l = m ++ [b] := ⟨l.dropLast, l.getLast (by intro e; rw [e] at h; simp at h), (List.dropLast_concat_getLast _).symm⟩
    rw [List.all_append] at hd
    have h1 : m.all digit8 = true := by simp at hd; simp; exact hd.1
    have h2 : digit8 b = true := by simp at hd; exact hd.2
    have ih := valOf_lt n m (by simp at h; exact h) h1
    rw [valOf_snoc, Nat.pow_succ]
    unfold digit8 digitB at h2
    have h3 := of_decide_eq_true h2
    omega
theorem parseV_nil : parseV [] = none := by decide
theorem parseV_long (l : List UInt8) (h : 9 < l.length) : parseV l = none := by
  unfold parseV; rw [if_pos (.inr (.inl h))]
theorem parseV_zero (l : List UInt8) (h : l.head? = some 48) (h1 : 1 < l.length) : parseV l = none := by
  unfold parseV; rw [if_pos (.inr (.inr ⟨h, h1⟩))]
def allDigit (l : List UInt8) : Bool := l.all digit8
def digitsV (l : List UInt8) : Option Nat := if allDigit l then some (valOf l) else none
theorem parseV_of (l : List UInt8) (h0 : 0 < l.length) (h : l.length ≤ 9) (hz : l.head? = some 48 → l.length ≤ 1) : parseV l = digitsV l := by
  have hn : ¬ (l = [] ∨ 9 < l.length ∨ (l.head? = some 48 ∧ 1 < l.length)) := by
    rintro (h1 | h1 | ⟨h1, h2⟩)
    · rw [h1] at h0; simp at h0
    · omega
    · have := hz h1; omega
  unfold parseV; rw [if_neg hn]; rfl
theorem allDigit_snoc (l : List UInt8) (b : UInt8) : allDigit (l ++ [b]) = (allDigit l && digit8 b) := by
  unfold allDigit; rw [List.all_append]; simp
theorem allDigit_no (s : ByteArray) (k : Nat) (h : k < s.size) (hd : digitB ((s[k]).toNat : Int) = false) : allDigit s.data.toList = false := by
  have e := List.take_append_drop k s.data.toList
  unfold allDigit
  rw [← e, drop_cons s k h, List.all_append, List.all_cons, show digit8 s[k] = false from hd]
  simp
theorem head_of (s : ByteArray) (h0 : 0 < s.size) : s.data.toList.head? = some s[0] := by
  have hd := drop_cons s 0 h0
  rw [List.drop_zero] at hd
  rw [hd]; rfl
end Go.Proofs.YtnapmbemoppfbaaDoor
