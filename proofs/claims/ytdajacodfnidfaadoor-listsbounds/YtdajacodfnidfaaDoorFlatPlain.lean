/- Lists made flat, and split again: plain facts. -/
import Derived.Test.YtdajacodfnidfaaDoorPlain2
import Derived.Test.YtdajacodfnidfaaDoorListPlain
import Derived.Lib.Join
namespace Go.Proofs.YtdajacodfnidfaaDoor

theorem splitR_length : ∀ (cs : List (List UInt8 × Lt)) (acc : List UInt8), (splitR acc cs).length ≤ cs.length + 1
  | [], acc => by simp only [splitR, one]; split <;> simp
  | (raw, l) :: cs, acc => by
    simp only [splitR]
    split
    · have h1 := splitR_length cs []
      have h2 : (one acc).length ≤ 1 := by unfold one; split <;> simp
      simp only [List.length_append, List.length_cons]; omega
    · have h1 := splitR_length cs (acc ++ raw)
      simp only [List.length_cons]; omega
theorem splitL_length (l : List UInt8) : (splitL l).length ≤ l.length + 1 := by
  have h1 := splitR_length (chunks l) []
  have h2 : (chunks l).length ≤ l.length := by
    have := letts_length_le l
    rw [← chunks_snd, List.length_map] at this
    exact this
  unfold splitL
  omega
theorem splitR_mem : ∀ (cs : List (List UInt8 × Lt)) (acc z : List UInt8), z ∈ splitR acc cs → z.length ≤ acc.length + (cs.flatMap Prod.fst).length
  | [], acc, z, h => by
    simp only [splitR, one] at h
    split at h
    · cases h
    · rw [List.mem_singleton] at h
      subst h
      omega
  | (raw, l) :: cs, acc, z, h => by
    simp only [splitR] at h
    rw [List.flatMap_cons, List.length_append]
    split at h
    · rcases List.mem_append.1 h with h1 | h1
      · unfold one at h1
        split at h1
        · cases h1
        · rw [List.mem_singleton] at h1
          subst h1
          omega
      · have := splitR_mem cs [] z h1
        rw [List.length_nil] at this
        omega
    · have := splitR_mem cs (acc ++ raw) z h
      rw [List.length_append] at this
      simp only
      omega
theorem splitL_mem (l z : List UInt8) (h : z ∈ splitL l) : z.length ≤ l.length := by
  have h1 := splitR_mem (chunks l) [] z h
  rw [chunks_flat, List.length_nil] at h1
  omega
/-- How many bytes, with a space ahead of each. -/
def flatSum (l : List (List UInt8)) : Nat := (l.map fun s => 1 + s.length).sum
theorem flatSum_take (l : List (List UInt8)) (j : Nat) (s : List UInt8) (h : l[j]? = some s) : flatSum (l.take (j + 1)) = flatSum (l.take j) + (1 + s.length) := by
  unfold flatSum
  rw [List.take_add_one, h]
  simp
theorem flatSum_le (l : List (List UInt8)) (k : Nat) : flatSum (l.take k) ≤ flatSum l := by
  conv => rhs; rw [← List.take_append_drop k l]
  unfold flatSum
  rw [List.map_append, List.sum_append]
  omega
theorem flatSum_length (l : List (List UInt8)) : l.length ≤ flatSum l := by
  induction l with
  | nil => simp
  | cons s l ih =>
    unfold flatSum at *
    simp only [List.map_cons, List.sum_cons, List.length_cons]
    omega
theorem flatSum_mem (l : List (List UInt8)) (s : List UInt8) (h : s ∈ l) : s.length ≤ flatSum l := by
  induction l with
  | nil => simp at h
  | cons t l ih =>
    unfold flatSum at *
    simp only [List.map_cons, List.sum_cons]
    rcases List.mem_cons.1 h with rfl | h
    · omega
    · have := ih h
      omega
theorem join_length : ∀ (l : List (List UInt8)), (Lib.join l [32]).length ≤ flatSum l
  | [] => by simp [Lib.join]
  | [s] => by simp [Lib.join, flatSum]
  | s :: t :: l => by
    have ih := join_length (t :: l)
    unfold Lib.join at *
    rw [List.intercalate_cons_cons]
    unfold flatSum at *
    simp only [List.map_cons, List.sum_cons, List.length_append, List.length_cons, List.length_nil] at *
    omega
theorem join_length1 (s : List UInt8) (l : List (List UInt8)) : (Lib.join (s :: l) [32]).length + 1 = flatSum (s :: l) := by
  induction l generalizing s with
  | nil => simp [Lib.join, flatSum]; omega
  | cons t l ih =>
    have h := ih t
    unfold Lib.join at *
    rw [List.intercalate_cons_cons]
    unfold flatSum at *
    simp only [List.map_cons, List.sum_cons, List.length_append, List.length_cons, List.length_nil] at *
    omega
/-- One item, or too big. -/
def flatB (l : List (List UInt8)) : Option (List (List UInt8)) := if flatSum l ≤ 2001 then some [Lib.join l [32]] else none
theorem flatB_fits (l r : List (List UInt8)) (h : flatB l = some r) : r = [Lib.join l [32]] ∧ fitsB r = true := by
  unfold flatB at h
  split at h
  · next hl =>
    cases h
    refine ⟨rfl, ?_⟩
    rw [fitsB_iff]
    refine ⟨by simp, fun s hs => ?_⟩
    simp at hs
    subst hs
    cases l with
    | nil => simp [Lib.join]
    | cons s l =>
      have := join_length1 s l
      omega
  · cases h
theorem one_ne (l : List UInt8) (h : l ≠ []) : one l = [l] := by
  unfold one
  rw [if_neg h]
theorem escL_ne (l : List UInt8) (h : l ≠ []) : escL l ≠ [] := by
  cases l with
  | nil => exact absurd rfl h
  | cons c l =>
    rw [escL_cons]
    cases specialC c <;> simp
/-- Escaped, made flat, and split again. -/
theorem split_flat : ∀ (l : List (List UInt8)), (∀ s ∈ l, s ≠ []) → splitL (Lib.join (l.map escL) [32]) = l.map escL
  | [], _ => by decide
  | [s], h => by
    have hs := h s (by simp)
    show splitL (Lib.join [escL s] [32]) = [escL s]
    have e : Lib.join [escL s] [32] = escL s := by simp [Lib.join]
    rw [e, split_esc, one_ne _ (escL_ne s hs)]
  | s :: t :: l, h => by
    have hs := h s (by simp)
    have ih := split_flat (t :: l) (fun x hx => h x (List.mem_cons_of_mem _ hx))
    have e : Lib.join ((s :: t :: l).map escL) [32] = escL s ++ 32 :: Lib.join ((t :: l).map escL) [32] := by
      unfold Lib.join
      rw [List.map_cons, List.map_cons, List.intercalate_cons_cons]
      simp
    rw [e, split_two _ _ 32 (cl_esc s) (by decide), ih, split_esc, one_ne _ (escL_ne s hs)]
    rfl
theorem plain_back (l : List (List UInt8)) : (l.map escL).map (fun x => (letts x).map Prod.fst) = l := by
  rw [List.map_map]
  conv => rhs; rw [← List.map_id l]
  apply List.map_congr_left
  intro x _
  exact plain_esc x
theorem escL_length_ge (l : List UInt8) : l.length ≤ (escL l).length := by
  induction l with
  | nil => simp
  | cons c l ih =>
    rw [escL_cons]
    cases specialC c <;> simp <;> omega
theorem escL_length_le (l : List UInt8) : (escL l).length ≤ 2 * l.length := by
  induction l with
  | nil => simp [escL]
  | cons c l ih =>
    rw [escL_cons]
    cases specialC c <;> simp <;> omega
theorem fits_unesc (l : List (List UInt8)) (h : fitsB (l.map escL) = true) : fitsB l = true := by
  rw [fitsB_iff] at *
  refine ⟨by simpa using h.1, fun s hs => ?_⟩
  have h1 := h.2 (escL s) (List.mem_map_of_mem hs)
  have h2 := escL_length_ge s
  omega
theorem gat_single {α : Type} (f : α → List UInt8) (l : List α) : gatAll (fun x => [f x]) l = l.map f := by
  unfold gatAll
  induction l with
  | nil => rfl
  | cons x l ih => simp only [List.map_cons, List.flatten_cons, ih, List.singleton_append]
theorem gat_one {α : Type} (f : α → List (List UInt8)) (x : α) : gatAll f [x] = f x := by simp [gatAll]
end Go.Proofs.YtdajacodfnidfaaDoor
