/- What the reader makes of a text: plain. -/
import Derived.Test.YtaildeglikhkaaaGreatDoorNode
namespace Go.Proofs.YtaildeglikhkaaaGreatDoor

theorem noR_le (s : ByteArray) (k : Nat) (h : k ≤ s.size) : (noR s k).2 ≤ s.size := by
  have h1 := kdR_le s k h
  have h2 := nuR_le s (kdR s k).2 h1
  unfold noR
  cases (kdR s k).1 with
  | none => exact h1
  | some kd =>
    simp only [noS]
    split
    · split
      · rename_i hc
        have hk : (nuR s (kdR s k).2).2 < s.size := by simpa using (List.getElem?_eq_some_iff.1 hc).1
        exact quR_le s _ hk
      · exact h2
    · exact h2
theorem escR_ge (s : ByteArray) (k : Nat) : k ≤ (escR s k).2 := by
  unfold escR
  cases hexAt s k with
  | none => exact Nat.le_refl _
  | some v =>
    simp only
    split
    · cases hexAt s (k + 1) with
      | none => exact Nat.le_succ _
      | some u =>
        simp only
        split <;> simp only <;> omega
    · exact Nat.le_refl _
theorem qbR_ge (s : ByteArray) (k : Nat) : k ≤ (qbR s k).2 := by
  unfold qbR
  cases s.data.toList[k]? with
  | none => exact Nat.le_refl _
  | some c =>
    simp only
    split
    · exact Nat.le_trans (Nat.le_succ _) (escR_ge s (k + 1))
    · split
      · exact Nat.le_refl _
      · exact Nat.le_succ _
theorem quG_ge (s : ByteArray) : ∀ (f k : Nat) (l : List UInt8), k ≤ (quG s f k l).2
  | 0, _, _ => Nat.le_refl _
  | f + 1, k, l => by
    have h1 := qbR_ge s k
    unfold quG
    split
    · exact Nat.le_succ _
    · cases (qbR s k).1 with
      | none => exact h1
      | some v => exact Nat.le_trans h1 (quG_ge s f _ _)
theorem quR_ge (s : ByteArray) (k : Nat) : k ≤ (quR s k).2 := by
  unfold quR
  split
  · exact Nat.le_trans (Nat.le_succ _) (quG_ge s _ (k + 1) [])
  · exact Nat.le_refl _
theorem nuR_ge (s : ByteArray) (k : Nat) : k ≤ (nuR s k).2 := by
  unfold nuR
  split <;> simp only <;> omega
theorem noR_ge (s : ByteArray) (k : Nat) : k ≤ (noR s k).2 := by
  have h1 : k ≤ (kdR s k).2 := Nat.le_add_right _ _
  have h2 := nuR_ge s (kdR s k).2
  unfold noR
  cases (kdR s k).1 with
  | none => exact h1
  | some kd =>
    simp only [noS]
    split
    · split
      · have := quR_ge s ((nuR s (kdR s k).2).2 + 1)
        simp only
        omega
      · simp only; omega
    · simp only; omega
/-- The node at a place gets its children's number and its size. -/
def fixN (X : List Nd) (i c : Nat) : List Nd := X.modify i fun n => { n with k := c, size := (X.length : Int) - i }
mutual
/-- A node and all below it: read?, where the reader stands, the nodes so far. -/
def treeG (s : ByteArray) : Nat → Nat → Nat → List Nd → Bool × Nat × List Nd
  | 0, _, k, X => (false, k, X)
  | f + 1, d, k, X =>
    if 120 < d then (false, k, X) else if s.data.toList[k]? = some 40 then
      match (noR s (k + 1)).1 with
      | none => (false, (noR s (k + 1)).2, X)
      | some n =>
        match kidsG s f (d + 1) (noR s (k + 1)).2 (if X.length ≤ 3000 then X ++ [n] else X) 0 with
        | (none, j, Y) => (false, j, Y)
        | (some c, j, Y) => (true, j, if X.length ≤ 3000 then fixN Y X.length c else Y)
    else (false, k, X)
/-- The children up to their end: how many. -/
def kidsG (s : ByteArray) : Nat → Nat → Nat → List Nd → Nat → Option Nat × Nat × List Nd
  | 0, _, k, X, _ => (none, k, X)
  | f + 1, d, k, X, c =>
    if s.data.toList[k]? = some 41 then (some c, k + 1, X) else if s.data.toList[k]? = some 32 then
      match treeG s f d (k + 1) X with
      | (false, j, Y) => (none, j, Y)
      | (true, j, Y) => kidsG s f d j Y (c + 1)
    else (none, k, X)
end
/-- The whole text's nodes, or where the reader stood. -/
def readG (s : ByteArray) : Bool × Nat × List Nd := treeG s (s.size + 1) 1 0 []
theorem text_lt (s : ByteArray) (k : Nat) (c : UInt8) (h : s.data.toList[k]? = some c) : k < s.size := by simpa using (List.getElem?_eq_some_iff.1 h).1
theorem read_le (s : ByteArray) : ∀ f : Nat, (∀ d k X, k ≤ s.size → (treeG s f d k X).2.1 ≤ s.size) ∧ (∀ d k X c, k ≤ s.size → (kidsG s f d k X c).2.1 ≤ s.size) := by
  intro f
  induction f with
  | zero => exact ⟨fun _ _ _ h => by rw [treeG]; exact h, fun _ _ _ _ h => by rw [kidsG]; exact h⟩
  | succ f ih =>
    refine ⟨fun d k X h => ?_, fun d k X c h => ?_⟩
    · rw [treeG]
      split
      · exact h
      · split
        · rename_i hc
          have hk := text_lt s k 40 hc
          have hn := noR_le s (k + 1) hk
          cases (noR s (k + 1)).1 with
          | none => exact hn
          | some n =>
            have := ih.2 (d + 1) (noR s (k + 1)).2 (if X.length ≤ 3000 then X ++ [n] else X) 0 hn
            revert this
            simp only
            rcases kidsG s f (d + 1) (noR s (k + 1)).2 (if X.length ≤ 3000 then X ++ [n] else X) 0 with ⟨_ | c, j, Y⟩
            · exact fun h => h
            · exact fun h => h
        · exact h
    · rw [kidsG]
      split
      · rename_i hc
        exact text_lt s k 41 hc
      · split
        · rename_i hc
          have hk := text_lt s k 32 hc
          have := ih.1 d (k + 1) X hk
          revert this
          rcases treeG s f d (k + 1) X with ⟨_ | _, j, Y⟩
          · exact fun h => h
          · exact fun h => ih.2 d j Y (c + 1) h
        · exact h
theorem read_ge (s : ByteArray) : ∀ f : Nat, (∀ d k X, k ≤ (treeG s f d k X).2.1) ∧ (∀ d k X c, k ≤ (kidsG s f d k X c).2.1) := by
  intro f
  induction f with
  | zero => exact ⟨fun _ _ _ => by rw [treeG]; exact Nat.le_refl _, fun _ _ _ _ => by rw [kidsG]; exact Nat.le_refl _⟩
  | succ f ih =>
    refine ⟨fun d k X => ?_, fun d k X c => ?_⟩
    · rw [treeG]
      split
      · exact Nat.le_refl _
      · split
        · have hn := noR_ge s (k + 1)
          cases (noR s (k + 1)).1 with
          | none => exact Nat.le_trans (Nat.le_succ _) hn
          | some n =>
            have := ih.2 (d + 1) (noR s (k + 1)).2 (if X.length ≤ 3000 then X ++ [n] else X) 0
            revert this
            simp only
            rcases kidsG s f (d + 1) (noR s (k + 1)).2 (if X.length ≤ 3000 then X ++ [n] else X) 0 with ⟨_ | c, j, Y⟩
            · intro h; simp only at h ⊢; omega
            · intro h; simp only at h ⊢; omega
        · exact Nat.le_refl _
    · rw [kidsG]
      split
      · exact Nat.le_succ _
      · split
        · have := ih.1 d (k + 1) X
          revert this
          rcases treeG s f d (k + 1) X with ⟨_ | _, j, Y⟩
          · intro h; simp only at h ⊢; omega
          · intro h
            have h2 := ih.2 d j Y (c + 1)
            simp only at h ⊢
            omega
        · exact Nat.le_refl _
end Go.Proofs.YtaildeglikhkaaaGreatDoor
