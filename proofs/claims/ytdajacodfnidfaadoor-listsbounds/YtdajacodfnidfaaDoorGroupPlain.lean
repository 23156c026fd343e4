/- Lists may be grouped: plain facts. -/
import Derived.Test.YtdajacodfnidfaaDoorListPlain
namespace Go.Proofs.YtdajacodfnidfaaDoor

theorem joined_one (a b : Nat) (ha : 1 ≤ a) (hb : 1 ≤ b) (h : joinedN a b = 1) : a = 1 ∧ b = 1 := by
  unfold joinedN at h
  split at h <;> omega
theorem joined_assoc (a b c : Nat) (ha : 1 ≤ a) (hb : 1 ≤ b) (hc : 1 ≤ c) : joinedN (joinedN a b) c = joinedN a (joinedN b c) := by
  unfold joinedN
  repeat' split
  all_goals omega
theorem joined_ge (a b : Nat) (ha : 1 ≤ a) (hb : 1 ≤ b) : 1 ≤ joinedN a b := by
  unfold joinedN
  split <;> omega
theorem atB_jt (A B : List (List UInt8)) (i : Nat) (ha : 1 ≤ A.length) (hb : 1 ≤ B.length) (h : joinedN A.length B.length = 1 ∨ i < joinedN A.length B.length) : atB (jtB A B) i = atB A i ++ atB B i := by
  by_cases h1 : joinedN A.length B.length = 1
  · obtain ⟨e1, e2⟩ := joined_one _ _ ha hb h1
    have e3 : (jtB A B).length = 1 := by rw [jt_length, h1]
    have e4 : ∀ (l : List (List UInt8)) (j : Nat), l.length = 1 → atB l j = atB l 0 := fun l j hl => by unfold atB; rw [if_pos hl, if_pos hl]
    rw [e4 _ i e3, e4 _ i e1, e4 _ i e2]
    have e5 : atB (jtB A B) 0 = (jtB A B).getD 0 [] := by unfold atB; rw [if_pos e3]
    rw [e5, List.getD_eq_getElem?_getD]
    unfold jtB
    rw [List.getElem?_map, List.getElem?_range (by omega)]
    rfl
  · have hi : i < joinedN A.length B.length := by omega
    have e3 : ¬ (jtB A B).length = 1 := by rw [jt_length]; exact h1
    have e5 : atB (jtB A B) i = (jtB A B).getD i [] := by unfold atB; rw [if_neg e3]
    rw [e5, List.getD_eq_getElem?_getD]
    unfold jtB
    rw [List.getElem?_map, List.getElem?_range hi]
    rfl
theorem jt_assoc (A B C : List (List UInt8)) (ha : 1 ≤ A.length) (hb : 1 ≤ B.length) (hc : 1 ≤ C.length) : jtB (jtB A B) C = jtB A (jtB B C) := by
  have e : jtB (jtB A B) C = (List.range (joinedN (joinedN A.length B.length) C.length)).map fun i => atB (jtB A B) i ++ atB C i := by
    rw [← jt_length A B]
    rfl
  have e' : jtB A (jtB B C) = (List.range (joinedN A.length (joinedN B.length C.length))).map fun i => atB A i ++ atB (jtB B C) i := by
    rw [← jt_length B C]
    rfl
  rw [e, e', joined_assoc _ _ _ ha hb hc]
  apply List.map_congr_left
  intro i hi
  rw [List.mem_range] at hi
  have h1 : i < joinedN (joinedN A.length B.length) C.length := by rw [joined_assoc _ _ _ ha hb hc]; exact hi
  rw [atB_jt A B i ha hb (joined_at _ _ i h1 (joined_ge _ _ ha hb)), atB_jt B C i hb hc (joined_at' _ _ i hi (joined_ge _ _ hb hc)), List.append_assoc]
theorem oneB_of (l : List (List UInt8)) (h : 1 ≤ l.length) : oneB l = l := by
  unfold oneB
  rw [if_neg (by omega)]
theorem joinB_two (A B r : List (List UInt8)) (h : joinB [A, B] = some r) : r = jtB (oneB A) (oneB B) ∧ fitsB r = true ∧ 1 ≤ r.length := by
  have h' : (if fitsB (jtB (oneB A) (oneB B)) then (if fitsB (jtB (oneB A) (oneB B)) then some (jtB (oneB A) (oneB B)) else none) else none) = some r := h
  cases hf : fitsB (jtB (oneB A) (oneB B))
  · rw [hf] at h'
    simp at h'
  · rw [hf] at h'
    simp at h'
    subst h'
    refine ⟨rfl, hf, ?_⟩
    rw [jt_length]
    exact joined_ge _ _ (oneB_pos A) (oneB_pos B)
/-- Joined in whatever groups, where nothing is too big. -/
theorem join_groups (A B C P Q X Y : List (List UInt8)) (h1 : joinB [A, B] = some P) (h2 : joinB [B, C] = some Q) (h3 : joinB [P, C] = some X) (h4 : joinB [A, Q] = some Y) : X = Y ∧ joinB [A, B, C] = some X := by
  obtain ⟨p1, p2, p3⟩ := joinB_two A B P h1
  obtain ⟨q1, q2, q3⟩ := joinB_two B C Q h2
  obtain ⟨x1, x2, x3⟩ := joinB_two P C X h3
  obtain ⟨y1, y2, y3⟩ := joinB_two A Q Y h4
  rw [oneB_of P p3] at x1
  rw [oneB_of Q q3] at y1
  refine ⟨?_, ?_⟩
  · rw [x1, y1, p1, q1]
    exact jt_assoc _ _ _ (oneB_pos A) (oneB_pos B) (oneB_pos C)
  · show (if fitsB (jtB (oneB A) (oneB B)) then (if fitsB (jtB (jtB (oneB A) (oneB B)) (oneB C)) then (if fitsB (jtB (jtB (oneB A) (oneB B)) (oneB C)) then some (jtB (jtB (oneB A) (oneB B)) (oneB C)) else none) else none) else none) = some X
    rw [← p1, p2, ← x1, x2]
    rfl
theorem fits_three (A B C : List (List UInt8)) (h1 : fitsB (A ++ B) = true) (h2 : fitsB (B ++ C) = true) (h3 : fitsB (A ++ B ++ C) = false) : 100 < A.length + B.length + C.length := by
  rcases Nat.lt_or_ge 100 (A.length + B.length + C.length) with h | h
  · exact h
  · exfalso
    have : fitsB (A ++ B ++ C) = true := by
      rw [fitsB_iff] at *
      refine ⟨by simp; omega, fun s hs => ?_⟩
      rcases List.mem_append.1 hs with hs | hs
      · exact h1.2 s hs
      · exact h2.2 s (List.mem_append_right _ hs)
    rw [this] at h3
    cases h3
end Go.Proofs.YtdajacodfnidfaaDoor
