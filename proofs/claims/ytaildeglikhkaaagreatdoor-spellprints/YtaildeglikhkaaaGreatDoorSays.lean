/- A program that may be is told by its text: the law's round trip, plain. -/
import Derived.Test.YtaildeglikhkaaaGreatDoorFwd2
namespace Go.Proofs.YtaildeglikhkaaaGreatDoor

theorem says_may (x : Nd) (a : Ak) (i : Nat) (h : mayB x a i = true) : Says x := by
  unfold mayB at h
  simp only [Bool.and_eq_true] at h
  obtain ⟨⟨⟨⟨h1, h2⟩, h3⟩, _⟩, _⟩ := h
  have hn : 0 ≤ x.n ∧ x.n ≤ 99 := by
    unfold numB at h2
    repeat' split at h2
    all_goals
      simp only [Bool.and_eq_true, Bool.or_eq_true, decide_eq_true_eq] at h2
      omega
  refine ⟨?_, hn.1, by omega, fun hs => ?_⟩
  · unfold isOneB at h1
    split at h1
    · rw [h1]; rfl
    · rw [h1, Bool.or_true]
  · unfold strK at hs
    simp only [Bool.or_eq_false_iff, beq_eq_false_iff_ne, ne_eq] at hs
    obtain ⟨⟨⟨⟨⟨a1, a2⟩, a3⟩, a4⟩, a5⟩, a6⟩ := hs
    unfold strB at h3
    rw [if_neg a1, if_neg a2, if_neg (by rintro (e | e | e | e) <;> contradiction)] at h3
    simpa using h3
theorem says_go (l : List Nd) : ∀ (f i : Nat) (A : List Ak), goC l f i A = .fine → i + f = l.length → A.length = l.length → ∀ (j : Nat) (x : Nd), i ≤ j → l[j]? = some x → Says x
  | 0, i, A, _, hi, _, j, x, hj, hx => by
    have := (List.getElem?_eq_some_iff.1 hx).1
    omega
  | f + 1, i, A, h, hi, hA, j, x, hj, hx => by
    have h1 : i < l.length := by omega
    have h2 : i < A.length := by omega
    obtain ⟨g1, _, _, g4⟩ := goC_parts l f i A l[i] A[i] (List.getElem?_eq_getElem h1) (List.getElem?_eq_getElem h2) h
    by_cases e : i = j
    · subst e
      rw [List.getElem?_eq_getElem h1] at hx
      have : l[i] = x := by simpa using hx
      rw [← this]
      exact says_may _ _ _ g1
    · exact says_go l f (i + 1) _ g4 (by omega) (by rw [(askG_low l _ _ _ _ _ _ A).1, hA]) j x (by omega) hx
theorem says_fine (l : List Nd) (h : checkL l = .fine) : ∀ x ∈ l, Says x := by
  intro x hx
  obtain ⟨j, hj⟩ := List.mem_iff_getElem?.1 hx
  unfold checkL at h
  split at h
  · cases h
  · rename_i hl
    exact says_go l l.length 0 _ h (by omega) (aks_len _ (by omega)) j x (Nat.zero_le _) hj
/-- The text that Print's loop writes of a program that may be is read as this program. -/
theorem round_trip (l : List Nd) (h : checkL l = .fine) (s : ByteArray) (hs : s.data.toList = printG bgB l 0 []) : readG s = (true, s.size, l) := by
  obtain ⟨h1, _, h3⟩ := seg_of_fine l h
  exact read_back 30 l h1 (by omega) (by omega) (says_fine l h) s (by rw [hs, print_seg bgB 30 l h1])
/-- What is read is written as it was. -/
theorem round_back (s : ByteArray) (l : List Nd) (h : readG s = (true, s.size, l)) (hl : l.length ≤ 3000) : printG bgB l 0 [] = s.data.toList := by
  obtain ⟨h1, _, h3⟩ := read_fwd s l h hl
  rw [h3, print_seg bgB 120 l h1]
/-- A word's tree: so deep at most, each node told by its text, and read back as it is. -/
theorem word_seg (X : List Nd) (h : checkL (newN 22 0 [120] [X]) = .fine) : Seg 29 X ∧ X.length ≤ 2999 ∧ ∀ x ∈ X, Says x := by
  obtain ⟨h1, _, h3⟩ := seg_of_fine _ h
  have h4 := says_fine _ h
  have hc : newN 22 0 [120] [X] = ⟨22, 0, 1, X.length + 1, [120]⟩ :: X := by simp [newN]
  rw [hc] at h1 h3 h4
  refine ⟨?_, by simpa using h3, fun x hx => h4 x (by simp [hx])⟩
  generalize hZ : (⟨22, 0, 1, X.length + 1, [120]⟩ :: X : List Nd) = Z at h1
  cases h1 with
  | mk d kind n t Ys hs =>
    unfold newN at hZ
    obtain ⟨e1, e2⟩ := List.cons.inj hZ
    have e3 : (1 : Int) = Ys.length := congrArg Nd.k e1
    match Ys, e3 with
    | [Y], _ =>
      rw [e2]
      simpa using hs Y (by simp)
theorem word_trip (X : List Nd) (h : checkL (newN 22 0 [120] [X]) = .fine) (s : ByteArray) (hs : s.data.toList = printG bgB X 0 []) : readG s = (true, s.size, X) := by
  obtain ⟨h1, h2, h3⟩ := word_seg X h
  exact read_back 29 X h1 (by omega) (by omega) h3 s (by rw [hs, print_seg bgB 29 X h1])
end Go.Proofs.YtaildeglikhkaaaGreatDoor
