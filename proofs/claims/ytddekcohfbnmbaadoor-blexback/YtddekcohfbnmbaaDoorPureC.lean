/- Plain: a text between quotes. -/
import Derived.Test.YtddekcohfbnmbaaDoorPureB
namespace Go.Proofs.YtddekcohfbnmbaaDoor

/-- Each quote twice. -/
def quo : List UInt8 → List UInt8
  | [] => []
  | c :: t => if c = 39 then 39 :: 39 :: quo t else c :: quo t
theorem quo_len : ∀ l, (quo l).length ≤ l.length * 2
  | [] => by simp [quo]
  | c :: t => by
    have := quo_len t
    rw [quo]
    split <;> simp only [List.length_cons] <;> omega
theorem quo_append : ∀ (a b : List UInt8), quo (a ++ b) = quo a ++ quo b
  | [], b => rfl
  | c :: t, b => by
    rw [List.cons_append, quo, quo, quo_append t b]
    split <;> rfl
theorem raw_cons {c : UInt8} (t : List UInt8) (h : c ≠ 39) : qraw (c :: t) = (qraw t).map (fun q => (c :: q.1, q.2)) := by
  cases t with
  | nil => simp [qraw, h]
  | cons d t => rw [qraw, if_neg h]
theorem raw_quo : ∀ l : List UInt8, qraw (quo l ++ [39]) = some (quo l, []) ∧ qraw (quo l) = none
  | [] => ⟨rfl, rfl⟩
  | c :: t => by
    obtain ⟨h1, h2⟩ := raw_quo t
    rw [quo]
    split
    · refine ⟨?_, ?_⟩
      · show qraw (39 :: 39 :: (quo t ++ [39])) = _
        rw [qraw, if_pos rfl, if_pos rfl, h1]
        rfl
      · rw [qraw, if_pos rfl, if_pos rfl, h2]
        rfl
    · rename_i hc
      refine ⟨?_, ?_⟩
      · show qraw (c :: (quo t ++ [39])) = _
        rw [raw_cons _ hc, h1]
        rfl
      · rw [raw_cons _ hc, h2]
        rfl
theorem unq_cons {c : UInt8} (t : List UInt8) (h : c ≠ 39) : unq (c :: t) = c :: unq t := by
  cases t with
  | nil => rfl
  | cons d t => rw [unq, if_neg (fun e => h e.1)]
theorem unq_quo : ∀ l : List UInt8, unq (quo l) = l
  | [] => rfl
  | c :: t => by
    rw [quo]
    split
    · rename_i hc
      rw [unq, if_pos ⟨rfl, rfl⟩, unq_quo t, hc]
    · rename_i hc
      rw [unq_cons _ hc, unq_quo t]
theorem best_q (t : List UInt8) : best 18 (39 :: t) = 0 := by
  have : ∀ k, (sgn k).isPrefixOf (39 :: t) = true → sgn k = [] := fun k h => by
    unfold sgn at h ⊢
    split at h <;> simp_all [List.isPrefixOf]
  have key : ∀ n, best n (39 :: t) = 0 := by
    intro n
    induction n with
    | zero => rfl
    | succ n ih =>
      rw [best, ih, if_neg]
      rintro ⟨h1, h2⟩
      rw [this n h2] at h1
      simp at h1
  exact key 18
theorem over_q (t : List UInt8) : over (39 :: t) = 39 :: t := rfl
theorem token_q {N : Nat} (t : List UInt8) (hN : N = t.length + 1) : tokenL N (39 :: t) = match qraw t with
    | none => .error ⟨2, 0⟩
    | some q => .ok (⟨19, 0, 0, unq q.1, false⟩, q.2) := by
  unfold tokenL tokenM
  rw [over_q, best_q, if_neg (by simp)]
  show writ (N - (t.length + 1)) (glueB N (39 :: t) (39 :: t)) 39 t = _
  have hg : glueB N (39 :: t) (39 :: t) = false := by
    unfold glueB
    rw [List.length_cons, hN, Nat.sub_self]
    rfl
  rw [hg, hN, Nat.sub_self]
  unfold writ
  rw [if_pos rfl]
  cases qraw t <;> rfl
theorem best_nil : ∀ n, best n [] = 0 := by
  intro n
  induction n with
  | zero => rfl
  | succ n ih =>
    rw [best, ih, if_neg]
    rintro ⟨h1, h2⟩
    have h3 := (List.isPrefixOf_iff_prefix.1 h2).length_le
    simp only [List.length_nil] at h3
    omega
theorem token_end {N : Nat} (hN : 0 < N) : tokenL N [] = .ok (⟨0, N, 0, [], true⟩, []) := by
  unfold tokenL tokenM glueB
  have : best 18 (over []) = 0 := best_nil 18
  rw [this, if_neg (by simp)]
  show Except.ok ((⟨0, N, 0, [], decide (0 < N - 0) && decide (([] : List UInt8).length = ([] : List UInt8).length)⟩ : Tb), ([] : List UInt8)) = _
  rw [decide_eq_true (show 0 < N - 0 by omega), decide_eq_true rfl]
  rfl
theorem lex_quo (l : List UInt8) : lexL (39 :: (quo l ++ [39])) = .ok [⟨19, 0, 0, l, false⟩, ⟨0, (quo l).length + 2, 0, [], true⟩] := by
  have h1 := token_q (N := (39 :: (quo l ++ [39])).length) (quo l ++ [39]) rfl
  rw [(raw_quo l).1] at h1
  unfold lexL
  rw [lexW, h1]
  simp only [List.length_cons, List.length_append, List.length_nil]
  rw [if_neg (by simp), lexW, token_end (by omega)]
  simp only [unq_quo]
  rfl
theorem lex_unquo (l : List UInt8) : lexL (39 :: quo l) = .error ⟨2, 0⟩ := by
  have h1 := token_q (N := (39 :: quo l).length) (quo l) rfl
  rw [(raw_quo l).2] at h1
  unfold lexL
  rw [lexW, h1]
end Go.Proofs.YtddekcohfbnmbaaDoor
