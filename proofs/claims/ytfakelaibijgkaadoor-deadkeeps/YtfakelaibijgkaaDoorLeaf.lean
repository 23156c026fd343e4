/- What a node alone may be. -/
import Derived.Test.YtfakelaibijgkaaDoorMem
namespace Go.Proofs.YtfakelaibijgkaaDoor
open Go.RowKit
attribute [local go_sem] Oper.semAt_some

abbrev ndV (x : Nd) : Value := .agg #[.int .i64 x.kind, .int .i64 x.n, .int .i64 x.k, .int .i64 x.size, str x.s]
theorem ret_b {a b : Bool} (h : a = true ↔ b = true) : (Ending.returned (.bool a)) = .returned (.bool b) := by rw [Bool.eq_iff_iff.2 h]

theorem word_any (k : Int) (w : World) : Calls Tryd.prog 54 #[.int .i64 k] w fun e w' => e = .returned (.bool (wordK k)) ∧ w' = w := by
  by_cases h : 1 ≤ k
  all_goals
    go_enter Tryd.func54, Tryd.ntmps54
    go_wp2_with fail
    go_ret
    exact ⟨ret_b (by simp [wordK]; omega), rfl⟩
theorem command_any (k : Int) (w : World) : Calls Tryd.prog 55 #[.int .i64 k] w fun e w' => e = .returned (.bool (cmdK k)) ∧ w' = w := by
  by_cases h : 20 ≤ k
  all_goals
    go_enter Tryd.func55, Tryd.ntmps55
    go_wp2_with fail
    go_ret
    exact ⟨ret_b (by simp [cmdK]; omega), rfl⟩
theorem isOne_any (k : Int) (b : Bool) (w : World) : Calls Tryd.prog 34 #[.int .i64 k, .bool b] w fun e w' => e = .returned (.bool (isOneB k b)) ∧ w' = w := by
  unfold isOneB
  cases b with
  | true =>
    go_enter Tryd.func34, Tryd.ntmps34
    go_wp2_with fail
    refine (word_any _ _).mono ?_
    rintro e w1 ⟨rfl, rfl⟩
    go_wp2_with fail
    go_ret
    exact ⟨rfl, rfl⟩
  | false =>
    go_enter Tryd.func34, Tryd.ntmps34
    go_wp2_with fail
    refine (command_any _ _).mono ?_
    rintro e w1 ⟨rfl, rfl⟩
    go_wp2_with fail
    go_ret
    exact ⟨rfl, rfl⟩
theorem number_any (x : Nd) (w : World) : Calls Tryd.prog 35 #[ndV x] w fun e w' => e = .returned (.bool (numB x.kind x.n)) ∧ Below w.heap.size w w' := by
  obtain ⟨kd, n, k, sz, s⟩ := x
  by_cases h1 : kd = 1
  · subst h1
    by_cases hn : n = 0
    all_goals
      go_enter Tryd.func35, Tryd.ntmps35
      go_wp2_with fail
      go_ret
      exact ⟨ret_b (by simp [numB, hn]), below_new _ _⟩
  by_cases h2 : kd = 11
  · subst h2
    by_cases hn : 1 ≤ n
    all_goals
      go_enter Tryd.func35, Tryd.ntmps35
      go_wp2_with fail
      go_ret
      exact ⟨ret_b (by simp [numB]; omega), below_new _ _⟩
  by_cases h3 : kd = 33
  · subst h3
    by_cases hn : 1 ≤ n
    all_goals
      go_enter Tryd.func35, Tryd.ntmps35
      go_wp2_with fail
      go_ret
      exact ⟨ret_b (by simp [numB]; omega), below_new _ _⟩
  go_enter Tryd.func35, Tryd.ntmps35
  go_wp2_with fail
  go_ret
  exact ⟨ret_b (by simp [numB, h1, h2, h3]), below_new _ _⟩
theorem count_any (x : Nd) (w : World) : Calls Tryd.prog 37 #[ndV x] w fun e w' => e = .returned (.bool (cntB x.kind x.k)) ∧ Below w.heap.size w w' := by
  obtain ⟨kd, n, k, sz, s⟩ := x
  by_cases h1 : kd = 1 ∨ kd = 2 ∨ kd = 20
  · rcases h1 with rfl | rfl | rfl
    all_goals
      go_enter Tryd.func37, Tryd.ntmps37
      go_wp2_with fail
      go_ret
      exact ⟨ret_b (by simp [cntB]), below_new _ _⟩
  by_cases h2 : kd = 3 ∨ kd = 4 ∨ kd = 21 ∨ kd = 37 ∨ kd = 23 ∨ kd = 32 ∨ kd = 24
  · rcases h2 with rfl | rfl | rfl | rfl | rfl | rfl | rfl
    all_goals
      go_enter Tryd.func37, Tryd.ntmps37
      go_wp2_with fail
      go_ret
      exact ⟨ret_b (by simp [cntB]), below_new _ _⟩
  by_cases h3 : kd = 25 ∨ kd = 26 ∨ kd = 28 ∨ kd = 29 ∨ kd = 35 ∨ kd = 33 ∨ kd = 34
  · rcases h3 with rfl | rfl | rfl | rfl | rfl | rfl | rfl
    all_goals
      go_enter Tryd.func37, Tryd.ntmps37
      go_wp2_with fail
      go_ret
      exact ⟨ret_b (by simp [cntB]), below_new _ _⟩
  by_cases h4 : kd = 30
  · subst h4
    by_cases hk : 1 ≤ k
    all_goals
      go_enter Tryd.func37, Tryd.ntmps37
      go_wp2_with fail
      go_ret
      exact ⟨ret_b (by simp [cntB]; omega), below_new _ _⟩
  simp only [not_or] at h1 h2 h3
  obtain ⟨a1, a2, a3⟩ := h1
  obtain ⟨b1, b2, b3, b4, b5, b6, b7⟩ := h2
  obtain ⟨c1, c2, c3, c4, c5, c6, c7⟩ := h3
  go_enter Tryd.func37, Tryd.ntmps37
  go_wp2_with fail
  go_ret
  exact ⟨ret_b (by simp [cntB, a1, a2, a3, b1, b2, b3, b4, b5, b6, b7, c1, c2, c3, c4, c5, c6, c7, h4]), below_new _ _⟩
theorem size_any (x : Nd) (room : Int) (last : Bool) (w : World) : Calls Tryd.prog 38 #[ndV x, .int .i64 room, .bool last] w fun e w' => e = .returned (.bool (sizB x.k x.size room last)) ∧ Below w.heap.size w w' := by
  obtain ⟨kd, n, k, sz, s⟩ := x
  by_cases hk : k = 0
  · by_cases hs : sz = 1
    · cases last with
      | true =>
        go_enter Tryd.func38, Tryd.ntmps38
        go_wp2_with fail
        go_ret
        exact ⟨ret_b (by simp [sizB, hs]), below_new _ _⟩
      | false =>
        go_enter Tryd.func38, Tryd.ntmps38
        go_wp2_with fail
        go_ret
        exact ⟨ret_b (by simp [sizB, hs]), below_new _ _⟩
    · go_enter Tryd.func38, Tryd.ntmps38
      go_wp2_with fail
      go_ret
      exact ⟨ret_b (by simp [sizB, hs, hk]), below_new _ _⟩
  · cases last with
    | true =>
      go_enter Tryd.func38, Tryd.ntmps38
      go_wp2_with fail
      go_ret
      exact ⟨ret_b (by simp [sizB, hk]), below_new _ _⟩
    | false =>
      by_cases h1 : 1 ≤ sz
      all_goals
        go_enter Tryd.func38, Tryd.ntmps38
        go_wp2_with fail
        go_ret
        exact ⟨ret_b (by simp [sizB, hk]; omega), below_new _ _⟩
theorem wordAt_any (x : Nd) (K : Int) (hK : x.k = K) (hK1 : -9223372036854775807 ≤ K) (hK2 : K ≤ 9223372036854775807) (k : Nat) (w : World) : Calls Tryd.prog 39 #[ndV x, .int .i64 k] w fun e w' => e = .returned (.bool (wordAtB x.kind K k)) ∧ Below w.heap.size w w' := by
  obtain ⟨kd, n, k', sz, s⟩ := x
  simp only at hK
  subst hK
  by_cases h1 : kd = 21 ∨ kd = 22 ∨ kd = 36
  · rcases h1 with rfl | rfl | rfl
    all_goals
      go_enter Tryd.func39, Tryd.ntmps39
      go_wp2_with fail
      go_ret
      exact ⟨ret_b (by simp [wordAtB]), below_new _ _⟩
  by_cases h2 : kd = 29 ∨ kd = 35 ∨ kd = 33 ∨ kd = 34
  · rcases h2 with rfl | rfl | rfl | rfl
    all_goals
      go_enter Tryd.func39, Tryd.ntmps39
      go_wp2_with fail
      go_ret
      exact ⟨ret_b (by simp [wordAtB]), below_new _ _⟩
  by_cases h3 : kd = 30
  · subst h3
    by_cases hk0 : (k : Int) = 0
    all_goals
      go_enter Tryd.func39, Tryd.ntmps39
      go_wp2_with fail
      go_ret
      exact ⟨ret_b (by simp [wordAtB, hk0]), below_new _ _⟩
  by_cases h4 : kd = 37
  · subst h4
    go_enter Tryd.func39, Tryd.ntmps39
    go_wp2_with fail
    go_ret
    exact ⟨ret_b (by simp [wordAtB]), below_new _ _⟩
  simp only [not_or] at h1 h2
  obtain ⟨a1, a2, a3⟩ := h1
  obtain ⟨b1, b2, b3, b4⟩ := h2
  have e : wordAtB kd k' k = (wordK kd && decide (kd ≠ 12)) := by simp [wordAtB, a1, a2, a3, b1, b2, b3, b4, h3, h4]
  rw [e]
  cases hw : wordK kd with
  | true =>
    go_enter Tryd.func39, Tryd.ntmps39
    go_wp2_with fail
    refine (word_any _ _).mono ?_
    rintro e w1 ⟨rfl, rfl⟩
    rw [hw]
    go_wp2_with fail
    go_ret
    exact ⟨ret_b (by simp), below_new _ _⟩
  | false =>
    go_enter Tryd.func39, Tryd.ntmps39
    go_wp2_with fail
    refine (word_any _ _).mono ?_
    rintro e w1 ⟨rfl, rfl⟩
    rw [hw]
    go_wp2_with fail
    go_ret
    exact ⟨rfl, below_new _ _⟩
end Go.Proofs.YtfakelaibijgkaaDoor
