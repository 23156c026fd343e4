/- Functions told one after the other, as plain lists. -/
import Derived.Test.YtikogljojnapaaaVars
namespace Go.Proofs.Ytikogljojnapaaa
open Go.RowKit

section
variable {α : Type}
theorem find_insM_other (x : Txt × α) (j : Txt) (h : (x.1 == j) = false) : ∀ F : List (Txt × α), (insM x F).find? (fun p => p.1 == j) = F.find? fun p => p.1 == j
  | [] => by simp [insM, h]
  | y :: r => by
    unfold insM
    split
    · rw [List.find?_cons, h]
    · rw [List.find?_cons, List.find?_cons, find_insM_other x j h r]
theorem find_insM_same (x : Txt × α) : ∀ F : List (Txt × α), (∀ p ∈ F, (p.1 == x.1) = false) → (insM x F).find? (fun p => p.1 == x.1) = some x
  | [], _ => by simp [insM]
  | y :: r, h => by
    unfold insM
    split
    · rw [List.find?_cons]
      simp
    · rw [List.find?_cons, h y (by simp)]
      exact find_insM_same x r (fun p hp => h p (by simp [hp]))
theorem find_delM_other (F : List (Txt × α)) (k j : Txt) (h : (j == k) = false) : (delM F k).find? (fun p => p.1 == j) = F.find? fun p => p.1 == j := by
  unfold delM
  rw [List.find?_filter]
  congr 1
  funext p
  cases e : (p.1 == j)
  · simp
  · have : p.1 = j := by simpa using e
    rw [this, h]
    rfl
theorem find_putM_same (F : List (Txt × α)) (k : Txt) (d : α) : (putM F k d).find? (fun p => p.1 == k) = some (k, d) := by
  refine find_insM_same (k, d) _ (fun p hp => ?_)
  have := (List.mem_filter.1 hp).2
  simpa using this
theorem find_putM_other (F : List (Txt × α)) (k : Txt) (d : α) (j : Txt) (h : (j == k) = false) : (putM F k d).find? (fun p => p.1 == j) = F.find? fun p => p.1 == j := by
  unfold putM
  rw [find_insM_other (k, d) j (by simp only [beq_eq_false_iff_ne, ne_eq] at h ⊢; exact fun e => h e.symm), find_delM_other F k j h]
theorem getM_put_same (F : List (Txt × α)) (k : Txt) (d z : α) : getM (putM F k d) k z = d := by
  unfold getM
  rw [find_putM_same]
theorem getM_put_other (F : List (Txt × α)) (k : Txt) (d : α) (j : Txt) (z : α) (h : (j == k) = false) : getM (putM F k d) j z = getM F j z := by
  unfold getM
  rw [find_putM_other F k d j h]
theorem hasM_find (F : List (Txt × α)) (k : Txt) : hasM F k = (F.find? fun p => p.1 == k).isSome := by
  unfold hasM
  rw [List.isSome_find?]
theorem hasM_put_same (F : List (Txt × α)) (k : Txt) (d : α) : hasM (putM F k d) k = true := by
  rw [hasM_find, find_putM_same]
  rfl
theorem hasM_put_other (F : List (Txt × α)) (k : Txt) (d : α) (j : Txt) (h : (j == k) = false) : hasM (putM F k d) j = hasM F j := by
  rw [hasM_find, hasM_find, find_putM_other F k d j h]
theorem hasM_mem {F : List (Txt × α)} {k : Txt} (h : k ∈ F.map Prod.fst) : hasM F k = true := by
  obtain ⟨p, hp, rfl⟩ := List.mem_map.1 h
  exact List.any_eq_true.2 ⟨p, hp, by simp⟩
end

def nop (i : Nat) : Nd := ⟨20, i, 0, 1, []⟩
/-- The functions behind so many names. -/
def hAt (ns : List Txt) (l : List Nd) : Nat → Fps
  | 0 => []
  | k + 1 => putM (hAt ns l k) (ns.getD k []) (l ++ [nop k])
/-- The last place of a name among the first ones. -/
def lastAt (ns : List Txt) (n : Txt) : Nat → Int
  | 0 => -1
  | k + 1 => if ns.getD k [] = n then k else lastAt ns n k
theorem lastAt_lt (ns : List Txt) (n : Txt) : ∀ k, lastAt ns n k < k ∧ -1 ≤ lastAt ns n k
  | 0 => by simp [lastAt]
  | k + 1 => by
    have := lastAt_lt ns n k
    unfold lastAt
    split <;> constructor <;> omega
theorem hAt_length (ns : List Txt) (l : List Nd) : ∀ k, (hAt ns l k).length ≤ k
  | 0 => Nat.le_refl _
  | k + 1 => Nat.le_trans (length_putM _ _ _) (Nat.succ_le_succ (hAt_length ns l k))
theorem hAt_spec (ns : List Txt) (l : List Nd) (n : Txt) : ∀ k, (hasM (hAt ns l k) n = true ↔ 0 ≤ lastAt ns n k) ∧ (hasM (hAt ns l k) n = true → ∃ i : Nat, lastAt ns n k = i ∧ getM (hAt ns l k) n [] = l ++ [nop i])
  | 0 => by simp [hAt, hasM, lastAt]
  | k + 1 => by
    have ih := hAt_spec ns l n k
    unfold hAt lastAt
    by_cases h : ns.getD k [] = n
    · rw [if_pos h, h]
      refine ⟨⟨fun _ => by omega, fun _ => hasM_put_same _ _ _⟩, fun _ => ⟨k, rfl, getM_put_same _ _ _ _⟩⟩
    · have hb : (n == ns.getD k []) = false := by
        simp only [beq_eq_false_iff_ne, ne_eq]
        exact fun e => h e.symm
      rw [if_neg h, hasM_put_other _ _ _ _ hb, getM_put_other _ _ _ _ _ hb]
      exact ih
theorem lastAt_of (ns : List Txt) : ∀ (k j : Nat), j < k → 0 ≤ lastAt ns (ns.getD j []) k
  | 0, j, h => by omega
  | k + 1, j, h => by
    unfold lastAt
    split
    · omega
    · rename_i hne
      have : j < k := by
        rcases Nat.lt_or_ge j k with h1 | h1
        · exact h1
        · exact absurd (by rw [show j = k by omega]) hne
      exact lastAt_of ns k j this
theorem hAt_has (ns : List Txt) (l : List Nd) {k j : Nat} (h : j < k) : hasM (hAt ns l k) (ns.getD j []) = true := (hAt_spec ns l _ k).1.2 (lastAt_of ns k j h)
theorem hAt_names {ns : List Txt} {l : List Nd} {p : Txt × List Nd} : ∀ k, p ∈ hAt ns l k → k ≤ ns.length → p.1 ∈ ns
  | 0, h, _ => by simp [hAt] at h
  | k + 1, h, hk => by
    rcases mem_putM h with rfl | h
    · show ns.getD k [] ∈ ns
      have hl : k < ns.length := by omega
      rw [List.getD_eq_getElem?_getD, List.getElem?_eq_getElem hl]
      exact List.getElem_mem hl
    · exact hAt_names k h (by omega)
theorem vlen_start : noStar (newM []) = [] := by decide
end Go.Proofs.Ytikogljojnapaaa
