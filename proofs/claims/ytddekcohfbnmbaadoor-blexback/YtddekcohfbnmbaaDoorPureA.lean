/- Plain: two quotes are one. -/
import Derived.Test.YtddekcohfbnmbaaDoorPlain
import Derived.Lib.Replace
namespace Go.Proofs.YtddekcohfbnmbaaDoor
open Go.Lib

theorem ix_pre (c d : UInt8) (t : List UInt8) : [39, 39].isPrefixOf (c :: d :: t) = (39 == c && (39 == d && true)) := by
  simp [List.isPrefixOf]
theorem unq_none : ∀ s : List UInt8, index s [39, 39] = -1 → unq s = s
  | [], _ => rfl
  | [_], _ => rfl
  | c :: d :: t, h => by
    rw [index] at h
    split at h
    · cases h
    · rename_i hp
      split at h
      · rename_i hm
        have hm' : index (d :: t) [39, 39] = -1 := by simpa using hm
        rw [unq, if_neg, unq_none (d :: t) hm']
        rintro ⟨rfl, rfl⟩
        exact hp (by simp [List.isPrefixOf])
      · rename_i hm
        have := index_ge (d :: t) [39, 39]
        have hm' : index (d :: t) [39, 39] ≠ -1 := by simpa using hm
        omega
theorem unq_hit : ∀ (s : List UInt8) (i : Nat), index s [39, 39] = (i : Int) → unq s = s.take i ++ [39] ++ unq (s.drop (i + 2))
  | [], i, h => by simp [index] at h
  | [c], i, h => by
    simp [index, List.isPrefixOf] at h
  | c :: d :: t, i, h => by
    rw [index] at h
    split at h
    · rename_i hp
      obtain rfl : i = 0 := by omega
      have hcd : c = 39 ∧ d = 39 := by
        rw [ix_pre] at hp
        simp at hp
        exact ⟨hp.1.symm, hp.2.symm⟩
      rw [unq, if_pos hcd]
      rfl
    · rename_i hp
      split at h
      · omega
      · have hge := index_ge (d :: t) [39, 39]
        rename_i hm
        have hm' : index (d :: t) [39, 39] ≠ -1 := by simpa using hm
        obtain ⟨j, rfl⟩ : ∃ j, i = j + 1 := ⟨i - 1, by omega⟩
        have hj : index (d :: t) [39, 39] = (j : Int) := by omega
        rw [unq, if_neg, unq_hit (d :: t) j hj]
        · rfl
        · rintro ⟨rfl, rfl⟩
          exact hp (by simp [List.isPrefixOf])
theorem rep_unq : ∀ (f : Nat) (s : List UInt8) (k : Nat), s.length < f → countFrom [39, 39] f s ≤ k → replaceK [39, 39] [39] k s = unq s := by
  intro f
  induction f with
  | zero => intro s k h; omega
  | succ f ih =>
    intro s k hl hc
    rw [countFrom] at hc
    by_cases hm : index s [39, 39] = -1
    · rw [unq_none s hm]
      cases k with
      | zero => rfl
      | succ k => rw [replaceK, hm]; rfl
    · have hge := index_ge s [39, 39]
      obtain ⟨i, hi⟩ : ∃ i : Nat, index s [39, 39] = (i : Int) := ⟨(index s [39, 39]).toNat, by omega⟩
      have hroom := index_room s [39, 39] (by omega)
      rw [hi] at hc hroom
      rw [if_neg (by simp)] at hc
      obtain ⟨k, rfl⟩ : ∃ k', k = k' + 1 := ⟨k - 1, by omega⟩
      simp only [List.length_cons, List.length_nil] at hroom hc
      rw [replaceK_hit _ _ _ _ i hi, unq_hit s i hi]
      congr 1
      refine ih _ _ ?_ ?_
      · rw [List.length_drop]
        simp only [List.length_cons, List.length_nil]
        omega
      · simp only [List.length_cons, List.length_nil]
        have e : ((i : Int)).toNat = i := by omega
        rw [e] at hc
        omega
theorem rep_all (s : List UInt8) : replaceAll s [39, 39] [39] = unq s := by
  unfold replaceAll replace replaceNum
  rw [if_neg (by decide), if_pos (Or.inl (by decide))]
  exact rep_unq (s.length + 1) s _ (by omega) (Nat.le_refl _)
theorem countFrom_le (sub : List UInt8) : ∀ (f : Nat) (s : List UInt8), countFrom sub f s ≤ f := by
  intro f
  induction f with
  | zero => intro s; rw [countFrom]; omega
  | succ f ih =>
    intro s
    rw [countFrom]
    split
    · omega
    · have := ih (s.drop ((index s sub).toNat + sub.length)); omega
theorem count_le (s sub : List UInt8) : count s sub ≤ s.length + 1 := countFrom_le sub _ s
end Go.Proofs.YtddekcohfbnmbaaDoor
