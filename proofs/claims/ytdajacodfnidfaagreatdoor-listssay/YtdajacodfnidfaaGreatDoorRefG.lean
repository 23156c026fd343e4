/- Matching, a table at a time: plain facts, and rows of truth values. -/
import Derived.Test.YtdajacodfnidfaaGreatDoorRefF
import Derived.Laws.MakeOwn
namespace Go.Proofs.YtdajacodfnidfaaGreatDoor
open Go.RowKit Go.Shelf

theorem mt_any (f : Nat → Bool) (u : List UInt8) : mt [(true, f)] u = true := by
  have e : mt [(true, f)] u = starM (mt []) u := by simp [mt]
  rw [e, starM_iff]
  exact ⟨u.length, Nat.le_refl _, by simp [mt]⟩
theorem mt_one_iff (f : Nat → Bool) (u : List UInt8) : mt [(false, f)] u = true ↔ ∃ c, u = [c] ∧ f c.toNat = true := by
  match u with
  | [] => simp [mt]
  | [c] => simp [mt]
  | c :: d :: r => simp [mt]
theorem dp_nil (S : List UInt8) (k : Nat) (hk : k ≤ S.length) : mt [] (S.take k) = decide (k = 0) := by
  rw [Bool.eq_iff_iff]
  simp [mt]
  intro h
  subst h
  simpa using hk
theorem dp_star (A : List Pc) (f : Nat → Bool) (S : List UInt8) (k : Nat) (hk : k ≤ S.length) : mt (A ++ [(true, f)]) (S.take k) = true ↔ ∃ j, j ≤ k ∧ mt A (S.take j) = true := by
  rw [mt_append]
  constructor
  · rintro ⟨i, h1, h2, _⟩
    rw [List.length_take, Nat.min_eq_left hk] at h1
    rw [List.take_take, Nat.min_eq_left h1] at h2
    exact ⟨i, h1, h2⟩
  · rintro ⟨j, h1, h2⟩
    refine ⟨j, by rw [List.length_take]; omega, ?_, mt_any _ _⟩
    rw [List.take_take, Nat.min_eq_left h1]; exact h2
theorem dp_star0 (A : List Pc) (f : Nat → Bool) (S : List UInt8) : mt (A ++ [(true, f)]) (S.take 0) = mt A (S.take 0) := by
  rw [Bool.eq_iff_iff, dp_star A f S 0 (by omega)]
  constructor
  · rintro ⟨j, h1, h2⟩
    obtain rfl : j = 0 := by omega
    exact h2
  · intro h; exact ⟨0, Nat.le_refl _, h⟩
theorem dp_starS (A : List Pc) (f : Nat → Bool) (S : List UInt8) (k : Nat) (hk : k + 1 ≤ S.length) : mt (A ++ [(true, f)]) (S.take (k + 1)) = (mt (A ++ [(true, f)]) (S.take k) || mt A (S.take (k + 1))) := by
  rw [Bool.eq_iff_iff, Bool.or_eq_true, dp_star A f S _ hk, dp_star A f S k (by omega)]
  constructor
  · rintro ⟨j, h1, h2⟩
    by_cases e : j = k + 1
    · subst e; exact .inr h2
    · exact .inl ⟨j, by omega, h2⟩
  · rintro (⟨j, h1, h2⟩ | h)
    · exact ⟨j, by omega, h2⟩
    · exact ⟨_, Nat.le_refl _, h⟩
theorem dp_one0 (A : List Pc) (f : Nat → Bool) (S : List UInt8) : mt (A ++ [(false, f)]) (S.take 0) = false := by
  rw [Bool.eq_false_iff]
  intro h
  obtain ⟨i, h1, _, h3⟩ := (mt_append A [(false, f)] (S.take 0)).1 h
  obtain ⟨c, h4, _⟩ := (mt_one_iff f _).1 h3
  simp at h4
theorem dp_oneS (A : List Pc) (f : Nat → Bool) (S : List UInt8) (k : Nat) (c : UInt8) (hc : S[k]? = some c) : mt (A ++ [(false, f)]) (S.take (k + 1)) = (mt A (S.take k) && f c.toNat) := by
  have hk := (List.getElem?_eq_some_iff.1 hc).1
  have hl : (S.take (k + 1)).length = k + 1 := by rw [List.length_take]; omega
  have hd : (S.take (k + 1)).drop k = [c] := by
    rw [take_snoc hc, List.drop_append_of_le_length (by rw [List.length_take]; omega), List.drop_eq_nil_of_le (by rw [List.length_take]; omega)]
    rfl
  rw [Bool.eq_iff_iff, Bool.and_eq_true, mt_append]
  constructor
  · rintro ⟨i, h1, h2, h3⟩
    obtain ⟨d, h4, h5⟩ := (mt_one_iff f _).1 h3
    have h6 := congrArg List.length h4
    rw [List.length_drop, hl] at h6
    simp at h6
    obtain rfl : i = k := by omega
    rw [hd] at h4
    obtain rfl : c = d := by simpa using h4
    rw [List.take_take, Nat.min_eq_left (by omega)] at h2
    exact ⟨h2, h5⟩
  · rintro ⟨h1, h2⟩
    refine ⟨k, by omega, ?_, ?_⟩
    · rw [List.take_take, Nat.min_eq_left (by omega)]; exact h1
    · rw [hd]; exact (mt_one_iff f _).2 ⟨c, rfl, h2⟩

/-- A row of n + 1 truth values. -/
def bcs (n : Nat) (f : Nat → Bool) : Array Value := ((List.range (n + 1)).map fun k => Value.bool (f k)).toArray
theorem bcs_get (n : Nat) (f : Nat → Bool) (k : Nat) (h : k ≤ n) : (bcs n f)[k]? = some (.bool (f k)) := by
  unfold bcs
  rw [List.getElem?_toArray, List.getElem?_map, List.getElem?_range (by omega)]
  rfl
theorem bcs_set (n : Nat) (f : Nat → Bool) (k : Nat) (v : Bool) : (bcs n f).setIfInBounds k (.bool v) = bcs n (fun j => if j = k then v else f j) := by
  unfold bcs
  rw [List.setIfInBounds_toArray]
  congr 1
  apply List.ext_getElem?
  intro j
  rw [List.getElem?_set]
  by_cases hj : j < n + 1
  · by_cases e : k = j
    · subst e
      simp [hj]
    · have e' : ¬ j = k := fun h => e h.symm
      simp [e, e', hj]
  · by_cases e : k = j
    · subst e; simp [hj]
    · simp [e, hj]
theorem bcs_congr (n : Nat) (f h : Nat → Bool) (e : ∀ k, k ≤ n → f k = h k) : bcs n f = bcs n h := by
  unfold bcs
  congr 1
  apply List.map_congr_left
  intro k hk
  rw [List.mem_range] at hk
  rw [e k (by omega)]
theorem made_bcs (n : Nat) : madeCells (Value.bool false).cells ((n + 1) * 1) = bcs n (fun _ => false) := by
  have e : ∀ j : Nat, (Value.bool false).cells[j % (Value.bool false).cells.size]! = Value.bool false := fun j => by
    have e1 : (Value.bool false).cells = #[Value.bool false] := rfl
    rw [e1, show j % (#[Value.bool false] : Array Value).size = 0 from Nat.mod_one j]
    rfl
  unfold madeCells bcs
  rw [Nat.mul_one]
  apply Array.ext'
  rw [Array.toList_map]
  simp only [e, Array.toList_range]
theorem info4 : (Tryz.prog.info? 4).map (fun i => (i.zero, i.size, i.bytes)) = some (some (.bool false), 1, 1) := by kernel_rfl
theorem make_row (n : Nat) (hn : n < 4294967296) (w : World) : (Instr.makeSlice 111 (.int .i64 ((n : Int) + 1)) (.int .i64 ((n : Int) + 1))).run Tryz.prog w = .ok (.slice (some ⟨w.heap.size, 0, none⟩) (n + 1) (n + 1)) (w.alloc (.cells (bcs n (fun _ => false)) 4)) := by
  obtain ⟨i0, hi0, hz0, hz1, hz2⟩ := info_parts info4
  have h := run_make (P := Tryz.prog) w 111 4 i0 _ Tryz.underlying111 hi0 hz0 .i64 .i64 ((n : Int) + 1) ((n : Int) + 1) (by omega) (Int.le_refl _) (by rw [hz2]; omega) (by omega)
  rw [hz1, show ((n : Int) + 1).toNat = n + 1 by omega, made_bcs] at h
  exact h
end Go.Proofs.YtdajacodfnidfaaGreatDoor
