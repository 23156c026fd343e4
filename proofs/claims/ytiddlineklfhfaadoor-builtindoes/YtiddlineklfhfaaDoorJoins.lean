/- Texts with spaces between, one by one. -/
import Derived.Test.YtiddlineklfhfaaDoorFns2
namespace Go.Proofs.YtiddlineklfhfaaDoor

theorem join_cons2 (a b : List UInt8) (r : List (List UInt8)) : Lib.join (a :: b :: r) [32] = a ++ [32] ++ Lib.join (b :: r) [32] := by simp [Lib.join]
theorem join_snoc2 (l : List (List UInt8)) (p : List UInt8) (h : l ≠ []) : Lib.join (l ++ [p]) [32] = Lib.join l [32] ++ [32] ++ p := by
  induction l with
  | nil => exact absurd rfl h
  | cons a l ih =>
    cases l with
    | nil => simp [Lib.join]
    | cons b r =>
      have := ih (by simp)
      rw [List.cons_append, List.cons_append, join_cons2, ← List.cons_append, this, join_cons2]
      simp
theorem join_first2 {l : List (List UInt8)} {p : List UInt8} (hp : l[0]? = some p) : Lib.join (l.take (0 + 1)) [32] = p := by
  rw [List.take_add_one, hp]
  simp [Lib.join]
theorem join_next2 {l : List (List UInt8)} {k : Nat} {p : List UInt8} (hp : l[k]? = some p) (hk : 0 < k) : Lib.join (l.take (k + 1)) [32] = Lib.join (l.take k) [32] ++ [32] ++ p := by
  rw [List.take_add_one, hp]
  refine join_snoc2 _ _ (fun e => ?_)
  have hlt := (List.getElem?_eq_some_iff.1 hp).1
  have := congrArg List.length e
  simp at this
  rcases this with h | h
  · omega
  · rw [h] at hlt; simp at hlt
theorem join_take_le (l : List (List UInt8)) (k : Nat) : (Lib.join (l.take k) [32]).length ≤ sumT l + l.length := by
  have h1 := join_len (l.take k)
  have h2 : sumT (l.take k) ≤ sumT l := by
    have e : sumT l = sumT (l.take k) + sumT (l.drop k) := by
      unfold sumT
      rw [← List.sum_append, ← List.map_append, List.take_append_drop]
    omega
  have h3 : (l.take k).length ≤ l.length := by rw [List.length_take]; omega
  omega
end Go.Proofs.YtiddlineklfhfaaDoor
