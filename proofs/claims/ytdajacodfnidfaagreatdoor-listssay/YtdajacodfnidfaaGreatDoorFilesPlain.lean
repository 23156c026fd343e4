/- Plain facts on lists of names, sorted and each once. -/
import Derived.Test.YtdajacodfnidfaaGreatDoorFiles
namespace Go.Proofs.YtdajacodfnidfaaGreatDoor

theorem bl_total (a b : List UInt8) : (decide (a ≤ b) || decide (b ≤ a)) = true := by
  rw [Bool.or_eq_true, decide_eq_true_eq, decide_eq_true_eq]
  exact List.le_total a b
theorem bl_trans (a b c : List UInt8) (h1 : decide (a ≤ b) = true) (h2 : decide (b ≤ c) = true) : decide (a ≤ c) = true := by
  rw [decide_eq_true_eq] at *
  exact List.le_trans h1 h2
theorem sortB_sorted (zs : List (List UInt8)) : (sortB zs).Pairwise fun x y => x ≤ y := by
  have := List.pairwise_mergeSort (le := fun x y : List UInt8 => decide (x ≤ y)) bl_trans bl_total zs
  unfold sortB
  exact this.imp (fun h => by simpa using h)
theorem mem_sortB (zs : List (List UInt8)) (x : List UInt8) : x ∈ sortB zs ↔ x ∈ zs := (List.mergeSort_perm zs _).mem_iff
theorem mem_compactB (zs : List (List UInt8)) (x : List UInt8) : x ∈ Lib.compact zs ↔ x ∈ zs := by
  unfold Lib.compact Lib.compactUpTo
  simp only [List.mem_map, List.mem_filter, List.mem_range]
  constructor
  · rintro ⟨j, ⟨hj, _⟩, rfl⟩
    rw [getElem!_pos zs.toArray j (by simpa using hj)]
    simp
  · intro hx
    obtain ⟨i, hi, hxi⟩ := List.mem_iff_getElem.1 hx
    have hex : ∃ j, j < zs.length ∧ zs.toArray[j]! = x := ⟨i, hi, by rw [getElem!_pos zs.toArray i (by simpa using hi)]; simpa using hxi⟩
    induction i using Nat.strongRecOn with
    | _ i ih =>
      by_cases hk : Lib.keeps zs.toArray i = true
      · exact ⟨i, ⟨hi, hk⟩, by rw [getElem!_pos zs.toArray i (by simpa using hi)]; simpa using hxi⟩
      · simp only [Lib.keeps, decide_eq_true_eq] at hk
        have h0 : i ≠ 0 := fun e => hk (Or.inl e)
        have h1 : zs.toArray[i]! = zs.toArray[i - 1]! := Decidable.byContradiction fun e => hk (Or.inr e)
        rw [getElem!_pos zs.toArray i (by simpa using hi), getElem!_pos zs.toArray (i - 1) (by simp; omega)] at h1
        exact ih (i - 1) (by omega) (by omega) (by simp at h1; rw [← h1]; exact hxi)
theorem compactB_rising (zs : List (List UInt8)) (h : zs.Pairwise fun x y => x ≤ y) : (Lib.compact zs).Pairwise fun x y => x < y := by
  unfold Lib.compact Lib.compactUpTo
  rw [List.pairwise_map, List.pairwise_filter]
  have hr : (List.range zs.length).Pairwise fun i j => i < j ∧ j < zs.length := by
    have h1 : (List.range zs.length).Pairwise (· < ·) := List.pairwise_lt_range
    refine h1.imp_of_mem ?_
    intro i j _ hj hij
    exact ⟨hij, List.mem_range.1 hj⟩
  refine hr.imp ?_
  rintro i j ⟨hij, hj⟩ _ hk
  have hle : ∀ a b (hab : a ≤ b) (hb : b < zs.length), zs[a]'(by omega) ≤ zs[b] := by
    intro a b hab hb
    rcases Nat.lt_or_eq_of_le hab with h1 | h1
    · exact (List.pairwise_iff_getElem.1 h) a b (by omega) hb h1
    · subst h1; exact List.le_refl _
  simp only [Lib.keeps, decide_eq_true_eq] at hk
  have hk2 : zs.toArray[j]! ≠ zs.toArray[j - 1]! := by
    rcases hk with h1 | h1
    · omega
    · exact h1
  rw [getElem!_pos zs.toArray j (by simpa using hj), getElem!_pos zs.toArray (j - 1) (by simp; omega)] at hk2
  rw [getElem!_pos zs.toArray j (by simpa using hj), getElem!_pos zs.toArray i (by simp; omega)]
  simp only [List.getElem_toArray] at hk2 ⊢
  have h1 := hle i (j - 1) (by omega) (by omega)
  have h2 := hle (j - 1) j (by omega) hj
  have h3 : zs[j - 1] < zs[j] := by
    rcases List.le_iff_lt_or_eq.1 h2 with h | h
    · exact h
    · exact absurd h.symm hk2
  exact List.lt_of_le_of_lt h1 h3
theorem filesB_mem (d : Bool) (l : List Pc) (ns : List (List UInt8)) (x : List UInt8) : x ∈ filesB d l ns ↔ x ∈ ns ∧ wantB d l x = true := by
  unfold filesB
  rw [mem_compactB, mem_sortB, List.mem_filter]
theorem filesB_rising (d : Bool) (l : List Pc) (ns : List (List UInt8)) : (filesB d l ns).Pairwise fun x y => x < y := compactB_rising _ (sortB_sorted _)
theorem filesB_length (d : Bool) (l : List Pc) (ns : List (List UInt8)) : (filesB d l ns).length ≤ ns.length := by
  unfold filesB
  refine Nat.le_trans (Lib.compact_length_le _) ?_
  have : (sortB (ns.filter (wantB d l))).length = (ns.filter (wantB d l)).length := List.length_mergeSort _
  rw [this]
  exact List.length_filter_le _ _
end Go.Proofs.YtdajacodfnidfaaGreatDoor
