/- Plain facts on lists of texts within their bounds. -/
namespace Go.Proofs.YtdajacodfnidfaaGreatDoor

/-- Not too big? -/
def fitsB (l : List (List UInt8)) : Bool := decide (l.length ≤ 100) && l.all fun s => decide (s.length ≤ 2000)
theorem fitsB_iff (l : List (List UInt8)) : fitsB l = true ↔ l.length ≤ 100 ∧ ∀ s ∈ l, s.length ≤ 2000 := by
  simp [fitsB]
theorem fits_nil : fitsB [] = true := rfl
theorem fits_app_iff (U I : List (List UInt8)) (hU : fitsB U = true) : fitsB (U ++ I) = true ↔ I.length ≤ 100 - U.length ∧ fitsB I = true := by
  rw [fitsB_iff] at *
  rw [fitsB_iff]
  constructor
  · rintro ⟨h1, h2⟩
    rw [List.length_append] at h1
    exact ⟨by omega, by omega, fun s hs => h2 s (List.mem_append_right _ hs)⟩
  · rintro ⟨h1, h2, h3⟩
    refine ⟨by rw [List.length_append]; omega, fun s hs => ?_⟩
    rcases List.mem_append.1 hs with h | h
    · exact hU.2 s h
    · exact h3 s h
theorem fits_left (U I : List (List UInt8)) (h : fitsB (U ++ I) = true) : fitsB U = true := by
  rw [fitsB_iff] at *
  rw [List.length_append] at h
  exact ⟨by omega, fun s hs => h.2 s (List.mem_append_left _ hs)⟩
theorem fits_right (U I : List (List UInt8)) (h : fitsB (U ++ I) = true) : fitsB I = true := by
  rw [fitsB_iff] at *
  rw [List.length_append] at h
  exact ⟨by omega, fun s hs => h.2 s (List.mem_append_right _ hs)⟩
theorem fits_length (U : List (List UInt8)) (h : fitsB U = true) : U.length ≤ 100 := ((fitsB_iff U).1 h).1
theorem fits_mem (U : List (List UInt8)) (h : fitsB U = true) (s : List UInt8) (hs : s ∈ U) : s.length ≤ 2000 := ((fitsB_iff U).1 h).2 s hs
theorem fits_take (l : List (List UInt8)) (k : Nat) (h : fitsB (l.take k) = false) : fitsB l = false := by
  cases e : fitsB l
  · rfl
  · have h2 : fitsB (l.take k ++ l.drop k) = true := by rw [List.take_append_drop]; exact e
    rw [fits_left _ _ h2] at h
    cases h

/-- What each of the first k becomes, one behind the other. -/
def gat {α : Type} (f : α → List (List UInt8)) (l : List α) (k : Nat) : List (List UInt8) := ((l.take k).map f).flatten
def gatAll {α : Type} (f : α → List (List UInt8)) (l : List α) : List (List UInt8) := (l.map f).flatten
theorem gat_zero {α : Type} (f : α → List (List UInt8)) (l : List α) : gat f l 0 = [] := by simp [gat]
theorem gat_succ {α : Type} (f : α → List (List UInt8)) (l : List α) (k : Nat) (x : α) (h : l[k]? = some x) : gat f l (k + 1) = gat f l k ++ f x := by
  unfold gat
  rw [List.take_add_one, h]
  simp
theorem gat_all {α : Type} (f : α → List (List UInt8)) (l : List α) : gat f l l.length = gatAll f l := by
  unfold gat gatAll
  rw [List.take_length]
theorem gat_fits {α : Type} (f : α → List (List UInt8)) (l : List α) (k : Nat) (h : fitsB (gat f l k) = false) : fitsB (gatAll f l) = false := by
  cases e : fitsB (gatAll f l)
  · rfl
  · have h2 : fitsB (gat f l k ++ ((l.drop k).map f).flatten) = true := by
      have h3 : gatAll f l = gat f l k ++ ((l.drop k).map f).flatten := by
        unfold gatAll gat
        rw [← List.flatten_append, ← List.map_append, List.take_append_drop]
      rw [← h3]
      exact e
    rw [fits_left _ _ h2] at h
    cases h

/-- One item at least. -/
def oneB (l : List (List UInt8)) : List (List UInt8) := if l.length = 0 then [[]] else l
theorem oneB_pos (l : List (List UInt8)) : 1 ≤ (oneB l).length := by
  unfold oneB
  split
  · simp
  · omega
/-- The i-th; the only one at every i. -/
def atB (l : List (List UInt8)) (i : Nat) : List UInt8 := if l.length = 1 then l.getD 0 [] else l.getD i []
def joinedN (a b : Nat) : Nat := if a = 1 ∨ b = 1 then max a b else min a b
def jtB (a b : List (List UInt8)) : List (List UInt8) := (List.range (joinedN a.length b.length)).map fun i => atB a i ++ atB b i
theorem jt_length (a b : List (List UInt8)) : (jtB a b).length = joinedN a.length b.length := by simp [jtB]
theorem jt_take (a b : List (List UInt8)) (k : Nat) (h : k < joinedN a.length b.length) : (jtB a b).take (k + 1) = (jtB a b).take k ++ [atB a k ++ atB b k] := by
  rw [List.take_add_one]
  congr 1
  unfold jtB
  rw [List.getElem?_map, List.getElem?_range h]
  rfl
theorem joined_le (a b : Nat) : joinedN a b ≤ max a b := by
  unfold joinedN
  split <;> omega
theorem joined_at (a b k : Nat) (h : k < joinedN a b) (_ha : 1 ≤ a) : a = 1 ∨ k < a := by
  unfold joinedN at h
  split at h <;> omega
theorem joined_at' (a b k : Nat) (h : k < joinedN a b) (_hb : 1 ≤ b) : b = 1 ∨ k < b := by
  unfold joinedN at h
  split at h <;> omega
/-- Joined from the left, or too big. -/
def joinFrom (m : List (List UInt8)) : List (List (List UInt8)) → Option (List (List UInt8))
  | [] => if fitsB m then some m else none
  | l :: ls => if fitsB (jtB m (oneB l)) then joinFrom (jtB m (oneB l)) ls else none
def joinB : List (List (List UInt8)) → Option (List (List UInt8))
  | [] => some [[]]
  | l :: ls => joinFrom (oneB l) ls
end Go.Proofs.YtdajacodfnidfaaGreatDoor
