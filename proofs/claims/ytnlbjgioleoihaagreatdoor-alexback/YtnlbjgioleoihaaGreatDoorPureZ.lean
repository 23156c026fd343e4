/- Plain: one quote is two. -/
import Derived.Test.YtnlbjgioleoihaaGreatDoorPureQ
import Derived.Lib.Replace
import Derived.Lib.IndexLaws
namespace Go.Proofs.YtnlbjgioleoihaaGreatDoor
open Go.Lib
theorem countFrom_le (sub : List UInt8) : ∀ (f : Nat) (s : List UInt8), countFrom sub f s ≤ f := by
  intro f
  induction f with
  | zero => intro s; rw [countFrom]; omega
  | succ f ih =>
    intro s
    rw [countFrom]
    split
    · omega
    · have := ih (s.drop ((index s sub).toNat + sub.length)); omega
theorem count_le (s sub : List UInt8) : count s sub ≤ s.length + 1 := countFrom_le sub _ s

theorem esq_none : ∀ s : List UInt8, index s [39] = -1 → escS s = s
  | [], _ => rfl
  | c :: t, h => by
    rw [index] at h
    split at h
    · cases h
    · rename_i hp
      have hc : c ≠ 39 := fun e => hp (by rw [e]; simp [List.isPrefixOf])
      split at h
      · rename_i hm
        have hm' : index t [39] = -1 := by simpa using hm
        rw [escS, if_neg hc, esq_none t hm']
        rfl
      · rename_i hm
        have := index_ge t [39]
        have hm' : index t [39] ≠ -1 := by simpa using hm
        omega
theorem esq_hit : ∀ (s : List UInt8) (i : Nat), index s [39] = (i : Int) → escS s = s.take i ++ [39, 92, 39, 39] ++ escS (s.drop (i + 1))
  | [], i, h => by simp [index] at h
  | c :: t, i, h => by
    rw [index] at h
    split at h
    · rename_i hp
      obtain rfl : i = 0 := by omega
      have hc : c = 39 := by
        simp [List.isPrefixOf] at hp
        exact hp.symm
      rw [escS, if_pos hc]
      rfl
    · rename_i hp
      have hc : c ≠ 39 := fun e => hp (by rw [e]; simp [List.isPrefixOf])
      split at h
      · omega
      · have hge := index_ge t [39]
        rename_i hm
        have hm' : index t [39] ≠ -1 := by simpa using hm
        obtain ⟨j, rfl⟩ : ∃ j, i = j + 1 := ⟨i - 1, by omega⟩
        have hj : index t [39] = (j : Int) := by omega
        rw [escS, if_neg hc, esq_hit t j hj]
        rfl
theorem rep_esq : ∀ (f : Nat) (s : List UInt8) (k : Nat), s.length < f → countFrom [39] f s ≤ k → replaceK [39] [39, 92, 39, 39] k s = escS s := by
  intro f
  induction f with
  | zero => intro s k h; omega
  | succ f ih =>
    intro s k hl hc
    rw [countFrom] at hc
    by_cases hm : index s [39] = -1
    · rw [esq_none s hm]
      cases k with
      | zero => rfl
      | succ k => rw [replaceK, hm]; rfl
    · have hge := index_ge s [39]
      obtain ⟨i, hi⟩ : ∃ i : Nat, index s [39] = (i : Int) := ⟨(index s [39]).toNat, by omega⟩
      have hroom := index_room s [39] (by omega)
      rw [hi] at hc hroom
      rw [if_neg (by simp)] at hc
      obtain ⟨k, rfl⟩ : ∃ k', k = k' + 1 := ⟨k - 1, by omega⟩
      simp only [List.length_cons, List.length_nil] at hroom hc
      rw [replaceK_hit _ _ _ _ i hi, esq_hit s i hi]
      congr 1
      refine ih _ _ ?_ ?_
      · rw [List.length_drop]
        simp only [List.length_cons, List.length_nil]
        omega
      · simp only [List.length_cons, List.length_nil]
        have e : ((i : Int)).toNat = i := by omega
        rw [e] at hc
        omega
theorem rep_quotes (s : List UInt8) : replaceAll s [39] [39, 92, 39, 39] = escS s := by
  unfold replaceAll replace replaceNum
  rw [if_neg (by decide), if_pos (Or.inl (by decide))]
  exact rep_esq (s.length + 1) s _ (by omega) (Nat.le_refl _)
end Go.Proofs.YtnlbjgioleoihaaGreatDoor
