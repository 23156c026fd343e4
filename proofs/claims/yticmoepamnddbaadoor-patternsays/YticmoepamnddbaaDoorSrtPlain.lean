/- Plain facts on rising lists of texts. -/
import Derived.Test.YticmoepamnddbaaDoorFilesPlain
namespace Go.Proofs.YticmoepamnddbaaDoor

theorem bl_lt : ∀ a b : List UInt8, Op.bytesLess a b = decide (a < b)
  | [], [] => by simp [Op.bytesLess]
  | [], _ :: _ => by simp [Op.bytesLess]
  | _ :: _, [] => by simp [Op.bytesLess]
  | a :: r, b :: s => by
    rw [Op.bytesLess, bl_lt r s, Bool.eq_iff_iff]
    simp [List.cons_lt_cons_iff]
theorem rising_unique : ∀ R S : List (List UInt8), R.Pairwise (fun x y => x < y) → S.Pairwise (fun x y => x < y) → (∀ x, x ∈ R ↔ x ∈ S) → R = S
  | [], [], _, _, _ => rfl
  | [], y :: S, _, _, h => absurd ((h y).2 List.mem_cons_self) (by simp)
  | x :: R, [], _, _, h => absurd ((h x).1 List.mem_cons_self) (by simp)
  | x :: R, y :: S, h1, h2, h => by
    obtain ⟨h3, h4⟩ := List.pairwise_cons.1 h1
    obtain ⟨h5, h6⟩ := List.pairwise_cons.1 h2
    have hxy : x = y := by
      rcases List.mem_cons.1 ((h x).1 List.mem_cons_self) with e | e
      · exact e
      · rcases List.mem_cons.1 ((h y).2 List.mem_cons_self) with e2 | e2
        · exact e2.symm
        · exact absurd (List.lt_trans (h5 x e) (h3 y e2)) (List.lt_irrefl _)
    subst hxy
    rw [rising_unique R S h4 h6 fun z => ?_]
    constructor
    · intro hz
      rcases List.mem_cons.1 ((h z).1 (List.mem_cons_of_mem _ hz)) with e | e
      · exact absurd (h3 z hz) (by rw [e]; exact List.lt_irrefl _)
      · exact e
    · intro hz
      rcases List.mem_cons.1 ((h z).2 (List.mem_cons_of_mem _ hz)) with e | e
      · exact absurd (h5 z hz) (by rw [e]; exact List.lt_irrefl _)
      · exact e
theorem rising_put (R : List (List UInt8)) (x : List UInt8) (k : Nat) (h : R.Pairwise fun x y => x < y) (h1 : ∀ j y, j < k → R[j]? = some y → y < x) (h2 : ∀ y, R[k]? = some y → x < y) : ((R.take k ++ [x]) ++ R.drop k).Pairwise fun x y => x < y := by
  have hd : ∀ y ∈ R.drop k, x < y := by
    intro y hy
    obtain ⟨j, hj⟩ := List.mem_iff_getElem?.1 hy
    rw [List.getElem?_drop] at hj
    have hjl := (List.getElem?_eq_some_iff.1 hj).1
    obtain ⟨z, hz⟩ : ∃ z, R[k]? = some z := ⟨_, List.getElem?_eq_getElem (by omega)⟩
    rcases Nat.eq_zero_or_pos j with e | e
    · subst e
      exact h2 y (by simpa using hj)
    · have h5 := (List.pairwise_iff_getElem.1 h) k (k + j) (by omega) hjl (by omega)
      rw [(List.getElem?_eq_some_iff.1 hz).2, (List.getElem?_eq_some_iff.1 hj).2] at h5
      exact List.lt_trans (h2 z hz) h5
  have ht : ∀ y ∈ R.take k, y < x := by
    intro y hy
    obtain ⟨j, hj⟩ := List.mem_iff_getElem?.1 hy
    have hjl := (List.getElem?_eq_some_iff.1 hj).1
    rw [List.length_take] at hjl
    rw [List.getElem?_take_of_lt (by omega)] at hj
    exact h1 j y (by omega) hj
  rw [List.append_assoc, List.pairwise_append]
  refine ⟨h.sublist (List.take_sublist _ _), ?_, ?_⟩
  · rw [List.singleton_append, List.pairwise_cons]
    exact ⟨hd, h.sublist (List.drop_sublist _ _)⟩
  · intro a ha b hb
    rcases List.mem_append.1 hb with e | e
    · rw [List.mem_singleton.1 e]; exact ht a ha
    · exact List.lt_trans (ht a ha) (hd b e)
theorem mem_put (R : List (List UInt8)) (x y : List UInt8) (k : Nat) : y ∈ (R.take k ++ [x]) ++ R.drop k ↔ y ∈ R ∨ y = x := by
  rw [List.mem_append, List.mem_append, List.mem_singleton]
  have : y ∈ R ↔ y ∈ R.take k ∨ y ∈ R.drop k := by rw [← List.mem_append, List.take_append_drop]
  rw [this]
  constructor
  · rintro ((h | h) | h)
    · exact .inl (.inl h)
    · exact .inr h
    · exact .inl (.inr h)
  · rintro ((h | h) | h)
    · exact .inl (.inl h)
    · exact .inr h
    · exact .inl (.inr h)
theorem put_length (R : List (List UInt8)) (x : List UInt8) (k : Nat) : ((R.take k ++ [x]) ++ R.drop k).length = R.length + 1 := by
  simp only [List.length_append, List.length_take, List.length_drop, List.length_cons, List.length_nil]
  omega
/-- A part that is not split goes on. -/
theorem split_dead (acc : List UInt8) (d : UInt8) (r : List UInt8) : splitR acc (chunks (92 :: d :: r)) = splitR (acc ++ [92, d]) (chunks r) := by
  rw [chunks_take]; simp [splitR]
theorem split_one (acc : List UInt8) (c : UInt8) (r : List UInt8) (h : c ≠ 92 ∨ r = []) : splitR acc (chunks (c :: r)) = if blankC c then one acc ++ splitR [] (chunks r) else splitR (acc ++ [c]) (chunks r) := by
  by_cases hc : c = 92
  · subst hc
    rcases h with h | h
    · exact absurd rfl h
    · subst h
      have : blankC 92 = false := by decide
      simp [chunks, splitR, this]
  · rw [chunks_cons c r hc]
    simp [splitR]
end Go.Proofs.YticmoepamnddbaaDoor
