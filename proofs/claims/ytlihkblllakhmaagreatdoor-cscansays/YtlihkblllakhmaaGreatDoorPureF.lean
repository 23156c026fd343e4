/- The document's scanner over plain lists: how long its parts are. -/
import Derived.Test.YtlihkblllakhmaaGreatDoorPureA
namespace Go.Proofs.YtlihkblllakhmaaGreatDoor

theorem dollar_sz {N : Nat} {l : List UInt8} {p : Pt} {u : List UInt8} (h : dollar N l = .ok (p, u)) : p.s.length + u.length ≤ l.length := by
  match l, h with
  | [], h => cases h
  | [_], h => cases h
  | c0 :: c :: t, h =>
    rw [dollar_cons] at h
    split at h
    · cases h; simp only [List.length_cons, List.length_nil]; omega
    · split at h
      · cases h; simp only [List.length_cons, List.length_nil]; omega
      · split at h
        · cases h
        · cases h
          have hl : (nrun (c :: t)).length ≤ (c :: t).length := by
            rw [nrun_cons]
            split
            · exact (List.takeWhile_sublist _).length_le
            · simp
          simp only [List.length_drop, List.length_cons] at hl ⊢
          omega
theorem stepD_sz {N : Nat} {l : List UInt8} {p : Pt} {u : List UInt8} (h : stepD N l = .ok (p, u)) : p.s.length + u.length ≤ l.length := by
  match l, h with
  | c :: t, h =>
    rw [stepD_cons] at h
    split at h
    · cases t with
      | nil => cases h; simp
      | cons d u => cases h; simp only [List.length_cons, List.length_nil]; omega
    · split at h
      · cases hk : passK 0 0 t with
        | none => rw [hk] at h; cases h
        | some v =>
          rw [hk] at h
          cases h
          have := q_passK_lt _ _ _ _ hk
          simp only [List.length_take, List.length_cons]
          omega
      · split at h
        · exact dollar_sz h
        · cases h; simp only [List.length_cons, List.length_nil]; omega
theorem joinP_len (X : List Pt) (p : Pt) : (joinP X p).length ≤ X.length + 1 := by
  rcases List.eq_nil_or_concat X with rfl | ⟨Y, q, rfl⟩
  · simp [joinP]
  · rw [List.concat_eq_append]
    unfold joinP
    simp only [List.getLast?_append, List.getLast?_singleton, Option.some_or]
    split <;> simp
theorem joinP_sz {X : List Pt} {p : Pt} {M d : Nat} (hX : ∀ q ∈ X, q.s.length ≤ M) (hp : p.s.length ≤ d) : ∀ q ∈ joinP X p, q.s.length ≤ M + d := by
  rcases List.eq_nil_or_concat X with rfl | ⟨Y, r, rfl⟩
  · intro q hq
    simp [joinP] at hq
    rw [hq]
    omega
  · rw [List.concat_eq_append] at *
    intro q hq
    unfold joinP at hq
    simp only [List.getLast?_append, List.getLast?_singleton, Option.some_or] at hq
    have hr := hX r (by simp)
    split at hq
    · rw [List.dropLast_concat, List.mem_append] at hq
      rcases hq with hq | hq
      · have := hX q (by simp [hq]); omega
      · simp at hq
        rw [hq]
        simp only [List.length_append]
        omega
    · rw [List.mem_append] at hq
      rcases hq with hq | hq
      · have := hX q hq; omega
      · simp at hq
        rw [hq]
        omega
theorem joinP_ne (X : List Pt) (p : Pt) : joinP X p ≠ [] := by
  rcases List.eq_nil_or_concat X with rfl | ⟨Y, q, rfl⟩
  · simp [joinP]
  · rw [List.concat_eq_append]
    unfold joinP
    simp only [List.getLast?_append, List.getLast?_singleton, Option.some_or]
    split <;> simp
end Go.Proofs.YtlihkblllakhmaaGreatDoor
