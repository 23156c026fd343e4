/- Braces in braces, brackets in brackets, plainly. -/
import Derived.Test.YtlihkblllakhmaaGreatDoorPlain
namespace Go.Proofs.YtlihkblllakhmaaGreatDoor

theorem passBx_open (n : Nat) (t : List UInt8) : passB n (123 :: t) = passB (n + 1) t := by
  cases t <;> simp [passB]
theorem passBx_shut (n : Nat) (t : List UInt8) : passB (n + 1) (125 :: t) = passB n t := by
  cases t <;> simp [passB]
theorem passBx_shut0 (t : List UInt8) : passB 0 (125 :: t) = some t := by
  cases t <;> simp [passB]
theorem passBx_other (n : Nat) (c : UInt8) (t : List UInt8) (h1 : c ≠ 92) (h2 : c ≠ 123) (h3 : c ≠ 125) : passB n (c :: t) = passB n t := by
  cases t <;> simp [passB, h1, h2, h3]
theorem passKx_open (n : Nat) (t : List UInt8) : passK n 0 (91 :: t) = passK (n + 1) 0 t := by
  cases t <;> simp [passK]
theorem passKx_shut (n : Nat) (t : List UInt8) : passK (n + 1) 0 (93 :: t) = passK n 0 t := by
  cases t <;> simp [passK]
theorem passKx_shut0 (t : List UInt8) : passK 0 0 (93 :: t) = some t := by
  cases t <;> simp [passK]
theorem passKx_other (n : Nat) (c : UInt8) (t : List UInt8) (h1 : c ≠ 92) (h2 : c ≠ 123) (h3 : c ≠ 125) (h4 : c ≠ 91) (h5 : c ≠ 93) : passK n 0 (c :: t) = passK n 0 t := by
  cases t <;> simp [passK, h1, h2, h3, h4, h5]
/-- None of these is a brace, a bracket, a backslash. -/
def tame (c : UInt8) : Bool := c != 123 && (c != 125 && (c != 91 && (c != 93 && c != 92)))
theorem tame_iff (c : UInt8) : tame c = true ↔ c ≠ 123 ∧ c ≠ 125 ∧ c ≠ 91 ∧ c ≠ 93 ∧ c ≠ 92 := by simp [tame]
theorem passBx_tame (n : Nat) : ∀ (s t : List UInt8), s.all tame = true → passB n (s ++ t) = passB n t
  | [], _, _ => rfl
  | c :: s, t, h => by
    simp only [List.all_cons, Bool.and_eq_true] at h
    obtain ⟨h1, h2, h3, h4, h5⟩ := (tame_iff c).1 h.1
    rw [List.cons_append, passBx_other n c _ h5 h1 h2, passBx_tame n s t h.2]
theorem passKx_tame (n : Nat) : ∀ (s t : List UInt8), s.all tame = true → passK n 0 (s ++ t) = passK n 0 t
  | [], _, _ => rfl
  | c :: s, t, h => by
    simp only [List.all_cons, Bool.and_eq_true] at h
    obtain ⟨h1, h2, h3, h4, h5⟩ := (tame_iff c).1 h.1
    rw [List.cons_append, passKx_other n c _ h5 h1 h2 h3 h4, passKx_tame n s t h.2]
theorem passBx_opens (t : List UInt8) : ∀ (k n : Nat), passB n (List.replicate k 123 ++ t) = passB (n + k) t
  | 0, _ => rfl
  | k + 1, n => by rw [List.replicate_succ, List.cons_append, passBx_open, passBx_opens t k (n + 1), Nat.add_assoc, Nat.add_comm 1 k]
theorem passBx_shuts (t : List UInt8) : ∀ (k n : Nat), passB (n + k) (List.replicate k 125 ++ t) = passB n t
  | 0, _ => rfl
  | k + 1, n => by rw [List.replicate_succ, List.cons_append, ← Nat.add_assoc, passBx_shut, passBx_shuts t k n]
theorem passKx_opens (t : List UInt8) : ∀ (k n : Nat), passK n 0 (List.replicate k 91 ++ t) = passK (n + k) 0 t
  | 0, _ => rfl
  | k + 1, n => by rw [List.replicate_succ, List.cons_append, passKx_open, passKx_opens t k (n + 1), Nat.add_assoc, Nat.add_comm 1 k]
theorem passKx_shuts (t : List UInt8) : ∀ (k n : Nat), passK (n + k) 0 (List.replicate k 93 ++ t) = passK n 0 t
  | 0, _ => rfl
  | k + 1, n => by rw [List.replicate_succ, List.cons_append, ← Nat.add_assoc, passKx_shut, passKx_shuts t k n]
/-- What stands within. -/
def inB (k : Nat) (s : List UInt8) : List UInt8 := List.replicate k 123 ++ (s ++ List.replicate k 125)
def inK (k : Nat) (s : List UInt8) : List UInt8 := List.replicate k 91 ++ (s ++ List.replicate k 93)
theorem passBx_in (k : Nat) (s t : List UInt8) (h : s.all tame = true) : passB 0 (inB k s ++ t) = passB 0 t := by
  rw [inB, List.append_assoc, List.append_assoc, passBx_opens, passBx_tame _ _ _ h, passBx_shuts]
theorem passKx_in (k : Nat) (s t : List UInt8) (h : s.all tame = true) : passK 0 0 (inK k s ++ t) = passK 0 0 t := by
  rw [inK, List.append_assoc, List.append_assoc, passKx_opens, passKx_tame _ _ _ h, passKx_shuts]
theorem take_in (l : List UInt8) (c : UInt8) : (l ++ [c]).take ((l ++ [c]).length - ([] : List UInt8).length - 1) = l := by simp
theorem words_doneB (N f : Nat) : wordsL N f [] = .ok ([], []) := by cases f <;> rfl
theorem parts_doneB (N f : Nat) (e : List UInt8) : partsL N e f [] = .ok ([], []) := by cases f <;> rfl
theorem scan_doneB (T : List UInt8 → Except Er (Cm × List UInt8)) (f : Nat) : scanW T f [] = .ok [] := by cases f <;> rfl
/-- A source that is one word. -/
theorem scan_word (c : UInt8) (t : List UInt8) (w : Wd) (h1 : blk c = false) (h2 : c ≠ 35) (h3 : sepS.contains c = false) (hw : wordL (t.length + 1) (c :: t) = .ok (w, [])) : scanL (c :: t) = .ok [⟨0, [w]⟩] := by
  have ho : over (c :: t) = c :: t := by
    rw [over, overC, List.dropWhile_cons, h1]
    simp [h2]
  have hws : wordsL (t.length + 1) (t.length + 1) (c :: t) = .ok ([w], []) := by
    rw [wordsL, h3, if_neg (by simp), hw]
    simp only [List.dropWhile_nil, words_doneB]
  rw [scanL, List.length_cons, scanW, commandL, ho, List.length_cons, hws]
  simp only [List.tail_nil, scan_doneB, Nat.sub_self, List.isEmpty_cons, Bool.false_eq_true, if_false]
/-- A source whose first word is none. -/
theorem scan_bad (c : UInt8) (t : List UInt8) (x : Er) (h1 : blk c = false) (h2 : c ≠ 35) (h3 : sepS.contains c = false) (hw : wordL (t.length + 1) (c :: t) = .error x) : scanL (c :: t) = .error x := by
  have ho : over (c :: t) = c :: t := by
    rw [over, overC, List.dropWhile_cons, h1]
    simp [h2]
  have hws : wordsL (t.length + 1) (t.length + 1) (c :: t) = .error x := by rw [wordsL, h3, if_neg (by simp), hw]
  rw [scanL, List.length_cons, scanW, commandL, ho, List.length_cons, hws]
theorem scan_braces (k : Nat) (s : List UInt8) (h : s.all tame = true) : scanL (123 :: (inB k s ++ [125])) = .ok [⟨0, [⟨0, true, [⟨1, 1, 0, inB k s⟩]⟩]⟩] := by
  refine scan_word _ _ _ (by decide) (by decide) (by decide) ?_
  rw [wordL, if_pos (by rfl), List.tail_cons, passBx_in k s [125] h, passBx_shut0]
  simp only [closedL, take_in, List.length_cons, Nat.sub_self, Nat.zero_add]
theorem scan_brackets (k : Nat) (s : List UInt8) (h : s.all tame = true) : scanL (91 :: (inK k s ++ [93])) = .ok [⟨0, [⟨0, false, [⟨3, 0, 0, inK k s⟩]⟩]⟩] := by
  refine scan_word _ _ _ (by decide) (by decide) (by decide) ?_
  rw [wordL, if_neg (by simp), if_neg (by simp), List.length_cons, partsL, if_neg (by decide), partL, if_pos (by rfl), List.tail_cons, passKx_in k s [93] h, passKx_shut0]
  simp only [take_in, List.length_cons, Nat.sub_self, parts_doneB]
theorem scan_open (k : Nat) (s : List UInt8) (h : s.all tame = true) : scanL (123 :: inB k s) = .error ⟨4, 0⟩ := by
  refine scan_bad _ _ _ (by decide) (by decide) (by decide) ?_
  have e := passBx_in k s [] h
  rw [List.append_nil] at e
  rw [wordL, if_pos (by rfl), List.tail_cons, e]
  simp [passB]
theorem scan_into (k : Nat) (s : List UInt8) (h : s.all tame = true) : scanL (120 :: 32 :: 91 :: inK k s) = .error ⟨1, 2⟩ := by
  have e := passKx_in k s [] h
  rw [List.append_nil] at e
  obtain ⟨L, hL⟩ : ∃ L, L = inK k s := ⟨_, rfl⟩
  rw [← hL] at e ⊢
  have ho : over (120 :: 32 :: 91 :: L) = 120 :: 32 :: 91 :: L := by
    have hb : blk 120 = false := by decide
    rw [over, overC, List.dropWhile_cons, hb]
    simp
  have hw1 : wordL (L.length + 3) (120 :: 32 :: 91 :: L) = .ok (⟨0, false, [⟨1, 0, 0, [120]⟩]⟩, 32 :: 91 :: L) := by
    have hp : partL (L.length + 3) endS (120 :: 32 :: 91 :: L) = .ok (⟨1, 0, 0, [120]⟩, 32 :: 91 :: L) := by
      rw [partL, if_neg (by simp), if_neg (by simp [dolB])]
      have hs1 : stopP endS (120 :: 32 :: 91 :: L) = false := by simp [stopP, endS, dolB]
      have hs2 : stopP endS (32 :: 91 :: L) = true := by simp [stopP, endS]
      have hpl : plainL endS (120 :: 32 :: 91 :: L).length (120 :: 32 :: 91 :: L) = ([120], 32 :: 91 :: L) := by
        rw [List.length_cons, plainL, hs1, List.length_cons, plainL]
        simp [pByte, hs2]
      rw [hpl]
      simp
    rw [wordL, if_neg (by simp), if_neg (by simp), List.length_cons, partsL, if_neg (by decide), hp]
    simp only
    rw [show (32 :: 91 :: L).length = (91 :: L).length + 1 from rfl, partsL, if_pos (by decide)]
    simp
  have hw2 : wordL (L.length + 3) (91 :: L) = .error ⟨1, 2⟩ := by
    rw [wordL, if_neg (by simp), if_neg (by simp), List.length_cons, partsL, if_neg (by decide), partL, if_pos (by rfl), List.tail_cons, e]
    simp [passK]
  have hws : wordsL (L.length + 3) (L.length + 3) (120 :: 32 :: 91 :: L) = .error ⟨1, 2⟩ := by
    rw [wordsL, if_neg (by decide), hw1]
    simp only
    rw [show (32 :: 91 :: L).dropWhile blk = 91 :: L from by rw [List.dropWhile_cons, if_pos (by decide), List.dropWhile_cons, if_neg (by decide)], wordsL, if_neg (by decide), hw2]
  rw [scanL, show (120 :: 32 :: 91 :: L).length = L.length + 2 + 1 from rfl, scanW, commandL, ho, show (120 :: 32 :: 91 :: L).length = L.length + 3 from rfl, hws]
end Go.Proofs.YtlihkblllakhmaaGreatDoor
