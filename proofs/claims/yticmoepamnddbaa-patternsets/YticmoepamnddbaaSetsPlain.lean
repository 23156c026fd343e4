/- Plain facts on patterns of one set; nothing of the program. -/
import Derived.Test.YticmoepamnddbaaPlain2
namespace Go.Proofs.Yticmoepamnddbaa

def lt1 (a : UInt8) : Lt := (a, !specialC a)
theorem letts_one (a : UInt8) : letts (escL [a]) = [lt1 a] := by rw [letts_esc]; rfl
theorem letts_live (c : UInt8) (r : List UInt8) (h : c ≠ 92) : letts (c :: r) = (c, true) :: letts r := by
  rw [← chunks_snd, chunks_cons c r h, List.map_cons, chunks_snd]
theorem letts_esc_append (a : UInt8) (r : List UInt8) : letts (escL [a] ++ r) = lt1 a :: letts r := by
  rw [letts_append _ _ (cl_esc _), letts_one]; rfl
theorem lt1_93 (a : UInt8) : isL (lt1 a) 93 = false := by
  unfold isL lt1
  by_cases h : a = 93
  · subst h; rfl
  · have : (a == 93) = false := by simpa using h
    simp [this]
theorem lt45 : isL (45, true) 93 = false := rfl
theorem lt1_no (a c : UInt8) (h : a ≠ c) : isL (lt1 a) c = false := by
  unfold isL lt1
  have : (a == c) = false := by simpa using h
  simp [this]
theorem pcs_bracket (x : Lt) (m : List Lt) (h : ∀ y ∈ m, isL y 93 = false) : pcs ((91, true) :: x :: (m ++ [(93, true)])) = [(false, amongS (x :: m))] := by
  have hf : closeIn (91, true) (x :: (m ++ [(93, true)])) = some m.length := by
    unfold closeIn
    rw [if_pos (by rfl)]
    simp only [List.drop_succ_cons, List.drop_zero]
    rw [List.findIdx?_append, List.findIdx?_eq_none_iff.2 h]
    have h1 : List.findIdx? (fun x => isL x 93) [((93 : UInt8), true)] = some 0 := by rfl
    rw [h1]
    simp
  rw [pcs, if_neg (by decide), if_neg (by decide), hf]
  simp only [List.take_succ_cons, List.drop_succ_cons]
  rw [List.take_left' rfl]
  have : (m ++ [(93, true)]).drop (m.length + 1) = ([] : List Lt) := by rw [List.drop_eq_nil_iff]; simp
  rw [this, pcs]
/-- The two patterns, turned or not. -/
def setL (t : Bool) (a b : UInt8) : List UInt8 := (if t then [91, 94] else [91]) ++ (escL [a] ++ 45 :: (escL [b] ++ [93]))
def twoL (t : Bool) (a b : UInt8) : List UInt8 := (if t then [91, 94] else [91]) ++ (escL [a] ++ (escL [b] ++ [93]))
def inB (a b c : UInt8) : Bool := decide (a.toNat ≤ c.toNat) && decide (c.toNat ≤ b.toNat)
def hasB (a b c : UInt8) : Bool := decide (c = a) || decide (c = b)
theorem pcs_setL (t : Bool) (a b : UInt8) (ha : a ≠ 94) : ∃ f, pcs (letts (setL t a b)) = [(false, f)] ∧ ∀ c : UInt8, f c.toNat = (inB a b c != t) := by
  cases t
  · refine ⟨amongS [lt1 a, (45, true), lt1 b], ?_, ?_⟩
    · unfold setL
      simp only [Bool.false_eq_true, if_false, List.singleton_append]
      rw [letts_live 91 _ (by decide), letts_esc_append, letts_live 45 _ (by decide), letts_esc_append, letts_live 93 _ (by decide)]
      exact pcs_bracket (lt1 a) [(45, true), lt1 b] (by simp [lt1_93, lt45])
    · intro c
      unfold amongS
      have ht : turnedL [lt1 a, (45, true), lt1 b] = false := by
        unfold turnedL
        rw [List.headD_cons, lt1_no a 94 ha]; simp
      rw [ht]
      simp only [Bool.false_eq_true, if_false, fillS, show isL (45, true) 45 = true from rfl, if_true, setAdd, setNo, lt1, inB]
      simp
  · refine ⟨amongS [(94, true), lt1 a, (45, true), lt1 b], ?_, ?_⟩
    · unfold setL
      simp only [if_true, List.cons_append, List.nil_append]
      rw [letts_live 91 _ (by decide), letts_live 94 _ (by decide), letts_esc_append, letts_live 45 _ (by decide), letts_esc_append, letts_live 93 _ (by decide)]
      exact pcs_bracket (94, true) [lt1 a, (45, true), lt1 b] (by simp [lt1_93, lt45])
    · intro c
      unfold amongS
      have ht : turnedL [(94, true), lt1 a, (45, true), lt1 b] = true := by rfl
      rw [ht]
      simp only [if_true, List.tail_cons, fillS, show isL (45, true) 45 = true from rfl, setAdd, setNo, setNot, lt1, inB]
      simp
theorem eq_byte (c a : UInt8) : (decide (a.toNat ≤ c.toNat) && decide (c.toNat ≤ a.toNat)) = decide (c = a) := by
  rw [Bool.eq_iff_iff]
  simp only [Bool.and_eq_true, decide_eq_true_eq]
  constructor
  · rintro ⟨h1, h2⟩; exact UInt8.toNat_inj.1 (by omega)
  · rintro rfl; exact ⟨Nat.le_refl _, Nat.le_refl _⟩
theorem pcs_twoL (t : Bool) (a b : UInt8) (ha : a ≠ 94) : ∃ f, pcs (letts (twoL t a b)) = [(false, f)] ∧ ∀ c : UInt8, f c.toNat = (hasB a b c != t) := by
  cases t
  · refine ⟨amongS [lt1 a, lt1 b], ?_, ?_⟩
    · unfold twoL
      simp only [Bool.false_eq_true, if_false, List.singleton_append]
      rw [letts_live 91 _ (by decide), letts_esc_append, letts_esc_append, letts_live 93 _ (by decide)]
      exact pcs_bracket (lt1 a) [lt1 b] (by simp [lt1_93])
    · intro c
      unfold amongS
      have ht : turnedL [lt1 a, lt1 b] = false := by
        unfold turnedL
        rw [List.headD_cons, lt1_no a 94 ha]; simp
      rw [ht]
      simp only [Bool.false_eq_true, if_false, fillS, setAdd, setNo, lt1, hasB, eq_byte]
      simp
  · refine ⟨amongS [(94, true), lt1 a, lt1 b], ?_, ?_⟩
    · unfold twoL
      simp only [if_true, List.cons_append, List.nil_append]
      rw [letts_live 91 _ (by decide), letts_live 94 _ (by decide), letts_esc_append, letts_esc_append, letts_live 93 _ (by decide)]
      exact pcs_bracket (94, true) [lt1 a, lt1 b] (by simp [lt1_93])
    · intro c
      unfold amongS
      have ht : turnedL [(94, true), lt1 a, lt1 b] = true := by rfl
      rw [ht]
      simp only [if_true, List.tail_cons, fillS, setAdd, setNo, setNot, lt1, hasB, eq_byte]
      simp
theorem matchset_c (t : Bool) (a b c : UInt8) (ha : a ≠ 94) : mt (pcs (letts (setL t a b))) [c] = (inB a b c != t) := by
  obtain ⟨f, h1, h2⟩ := pcs_setL t a b ha
  rw [h1, ← h2 c]; simp [mt]
theorem matchset_none (t : Bool) (a b : UInt8) (ha : a ≠ 94) : mt (pcs (letts (setL t a b))) [] = false := by
  obtain ⟨f, h1, h2⟩ := pcs_setL t a b ha
  rw [h1]; simp [mt]
theorem matchtwo_c (t : Bool) (a b c : UInt8) (ha : a ≠ 94) : mt (pcs (letts (twoL t a b))) [c] = (hasB a b c != t) := by
  obtain ⟨f, h1, h2⟩ := pcs_twoL t a b ha
  rw [h1, ← h2 c]; simp [mt]
theorem matchtwo_cc (t : Bool) (a b c : UInt8) (ha : a ≠ 94) : mt (pcs (letts (twoL t a b))) [c, c] = false := by
  obtain ⟨f, h1, h2⟩ := pcs_twoL t a b ha
  rw [h1]; simp [mt]
end Go.Proofs.Yticmoepamnddbaa
