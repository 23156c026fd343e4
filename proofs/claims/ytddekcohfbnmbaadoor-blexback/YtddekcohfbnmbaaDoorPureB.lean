/- Plain: how far a token goes. -/
import Derived.Test.YtddekcohfbnmbaaDoorPlain
namespace Go.Proofs.YtddekcohfbnmbaaDoor

theorem over_len (l : List UInt8) : (over l).length ≤ l.length := by
  unfold over overC
  have h1 := (List.dropWhile_sublist blk (l := l)).length_le
  split
  · have h2 := (List.dropWhile_sublist notNl (l := l.dropWhile blk)).length_le
    omega
  · exact h1
theorem dropWhile_head {q : UInt8 → Bool} (l : List UInt8) (c : UInt8) (t : List UInt8) (h : l.dropWhile q = c :: t) : q c = false := by
  have := List.head?_dropWhile_not q l
  rw [h] at this
  simpa using this
/-- What is not passed over is no blank, and begins no comment. -/
theorem over_head (l : List UInt8) (c : UInt8) (t : List UInt8) (h : over l = c :: t) : blk c = false ∧ c ≠ 35 := by
  unfold over overC at h
  split at h
  · have h10 : c = 10 := by
      have := dropWhile_head (q := notNl) _ c t h
      simpa [notNl] using this
    subst h10
    exact ⟨rfl, by decide⟩
  · rename_i hne
    refine ⟨dropWhile_head (q := blk) _ c t h, fun e => ?_⟩
    rw [h, e] at hne
    exact hne rfl
theorem best_ge : ∀ (n : Nat) (l : List UInt8) (k : Nat), k < n → (sgn k).isPrefixOf l = true → (sgn k).length ≤ (sgn (best n l)).length := by
  intro n
  induction n with
  | zero => intro l k h; omega
  | succ n ih =>
    intro l k hk hp
    rw [best]
    rcases Nat.lt_or_ge k n with h | h
    · have h1 := ih l k h hp
      split
      · rename_i h2; omega
      · exact h1
    · obtain rfl : k = n := by omega
      split
      · exact Nat.le_refl _
      · rename_i h2
        have h3 : ¬ (sgn (best k l)).length < (sgn k).length := fun e => h2 ⟨e, hp⟩
        omega
theorem best_no (l : List UInt8) (h : best 18 l = 0) (k : Nat) (hk : k < 18) (hs : sgn k ≠ []) : (sgn k).isPrefixOf l = false := by
  cases hp : (sgn k).isPrefixOf l with
  | false => rfl
  | true =>
    have := best_ge 18 l k hk hp
    rw [h] at this
    have h0 : (sgn 0).length = 0 := rfl
    have : (sgn k).length = 0 := by omega
    exact absurd (List.eq_nil_of_length_eq_zero this) hs
theorem one_pre (c d : UInt8) (t : List UInt8) : ([c] : List UInt8).isPrefixOf (d :: t) = (c == d) := by simp [List.isPrefixOf]
/-- A byte that begins a word. -/
theorem inW_here {c : UInt8} {t : List UInt8} (hb : best 18 (c :: t) = 0) (h1 : blk c = false) (h2 : c ≠ 35) (h39 : c ≠ 39) (h36 : c ≠ 36) (h38 : c ≠ 38) (h96 : c ≠ 96) : inW c = true := by
  have key : ∀ (k : Nat) (d : UInt8), k < 18 → sgn k = [d] → c ≠ d := fun k d hk hs e => by
    have := best_no _ hb k hk (by rw [hs]; simp)
    rw [hs, one_pre, e] at this
    simp at this
  have k1 := key 1 10 (by decide) rfl
  have k2 := key 2 59 (by decide) rfl
  have k5 := key 5 124 (by decide) rfl
  have k6 := key 6 40 (by decide) rfl
  have k7 := key 7 41 (by decide) rfl
  have k8 := key 8 123 (by decide) rfl
  have k9 := key 9 125 (by decide) rfl
  have k11 := key 11 60 (by decide) rfl
  have k12 := key 12 62 (by decide) rfl
  have k15 := key 15 94 (by decide) rfl
  have k16 := key 16 61 (by decide) rfl
  have k17 := key 17 33 (by decide) rfl
  have hb2 : c ≠ 32 ∧ c ≠ 9 := by simpa [blk] using h1
  simp [inW, k1, k2, k5, k6, k7, k8, k9, k11, k12, k15, k16, k17, hb2.1, hb2.2, h2, h39, h36, h38, h96]
theorem best_sgn : ∀ (n : Nat) (l : List UInt8), (sgn (best n l)).isPrefixOf l = true ∧ (best n l ≠ 0 → sgn (best n l) ≠ []) := by
  intro n
  induction n with
  | zero => intro l; rw [best]; exact ⟨by cases l <;> rfl, fun h => absurd rfl h⟩
  | succ n ih =>
    intro l
    rw [best]
    split
    · rename_i h
      exact ⟨h.2, fun _ e => by rw [e] at h; simp at h⟩
    · exact ih l
theorem qraw_len : ∀ (l : List UInt8) (x u : List UInt8), qraw l = some (x, u) → u.length < l.length
  | [], x, u, h => by cases h
  | [c], x, u, h => by
    rw [qraw] at h
    split at h
    · cases h; simp
    · cases h
  | c :: d :: t, x, u, h => by
    rw [qraw] at h
    split at h
    · split at h
      · cases hq : qraw t with
        | none => rw [hq] at h; cases h
        | some q =>
          obtain ⟨x', u'⟩ := q
          rw [hq] at h
          have h3 : u' = u := by have := congrArg Prod.snd (Option.some.inj h); exact this
          have := qraw_len t x' u' hq
          rw [← h3]
          simp only [List.length_cons]
          omega
      · cases h; simp
    · cases hq : qraw (d :: t) with
      | none => rw [hq] at h; cases h
      | some q =>
        obtain ⟨x', u'⟩ := q
        rw [hq] at h
        have h3 : u' = u := by have := congrArg Prod.snd (Option.some.inj h); exact this
        have := qraw_len (d :: t) x' u' hq
        rw [← h3]
        simp only [List.length_cons] at this ⊢
        omega
theorem nrun_len (l : List UInt8) : (nrun l).length ≤ l.length := by
  cases l with
  | nil => simp [nrun]
  | cons c t =>
    rw [nrun]
    split
    · exact (List.takeWhile_sublist _).length_le
    · simp
theorem varR_ok {k p : Nat} {g : Bool} {l : List UInt8} {t : Tb} {u : List UInt8} (h : varR k p g l = .ok (t, u)) : t.kind = k ∧ t.pos = p ∧ t.glue = g ∧ u.length ≤ l.length := by
  unfold varR at h
  split at h
  · cases h
    exact ⟨rfl, rfl, rfl, by rw [List.length_drop]; omega⟩
  · split at h
    · cases h
      exact ⟨rfl, rfl, rfl, by rw [List.length_drop]; omega⟩
    · cases h
theorem varR_err {k p : Nat} {g : Bool} {l : List UInt8} {x : Er} (h : varR k p g l = .error x) : x = ⟨0, p⟩ := by
  unfold varR at h
  split at h
  · cases h
  · split at h
    · cases h
    · cases h; rfl
theorem dollar_ok {p : Nat} {g : Bool} {l : List UInt8} {t : Tb} {u : List UInt8} (h : dollar p g l = .ok (t, u)) : 20 ≤ t.kind ∧ t.pos = p ∧ t.glue = g ∧ u.length ≤ l.length := by
  have hd : (l.drop 1).length ≤ l.length := by rw [List.length_drop]; omega
  unfold dollar at h
  split at h
  · obtain ⟨h1, h2, h3, h4⟩ := varR_ok h
    exact ⟨by omega, h2, h3, by omega⟩
  · split at h
    · obtain ⟨h1, h2, h3, h4⟩ := varR_ok h
      exact ⟨by omega, h2, h3, by omega⟩
    · split at h
      · cases h
        exact ⟨by show 20 ≤ 23; omega, rfl, rfl, hd⟩
      · obtain ⟨h1, h2, h3, h4⟩ := varR_ok h
        exact ⟨by omega, h2, h3, by omega⟩
theorem dollar_err {p : Nat} {g : Bool} {l : List UInt8} {x : Er} (h : dollar p g l = .error x) : x = ⟨0, p⟩ := by
  unfold dollar at h
  split at h
  · exact varR_err h
  · split at h
    · exact varR_err h
    · split at h
      · cases h
      · exact varR_err h
/-- A token that is not the end: where it lies, and that it goes on. -/
theorem token_ok {N : Nat} {l : List UInt8} {t : Tb} {u : List UInt8} (h : tokenL N l = .ok (t, u)) :
    (t.kind = 0 ∧ t.pos = N ∧ u = [] ∧ over l = [] ∧ t.glue = glueB N l []) ∨ (t.kind ≠ 0 ∧ over l ≠ [] ∧ t.pos = N - (over l).length ∧ u.length < (over l).length ∧ t.glue = glueB N l (over l)) := by
  unfold tokenL tokenM at h
  have hb := best_sgn 18 (over l)
  split at h
  · rename_i hne
    generalize best 18 (over l) = kb at h hb hne
    obtain ⟨rfl, rfl⟩ := Prod.mk.inj (Except.ok.inj h)
    have hs := hb.2 hne
    have hp := (List.isPrefixOf_iff_prefix.1 hb.1).length_le
    have hl : 0 < (sgn kb).length := List.length_pos_iff.2 hs
    refine Or.inr ⟨hne, fun e => ?_, rfl, by rw [List.length_drop]; omega, rfl⟩
    rw [e] at hp
    simp only [List.length_nil] at hp
    omega
  · rename_i hne
    have hb0 : best 18 (over l) = 0 := by simpa using hne
    cases hm : over l with
    | nil =>
      rw [hm] at h
      cases h
      exact Or.inl ⟨rfl, rfl, rfl, rfl, rfl⟩
    | cons c r =>
      rw [hm] at h hb0
      obtain ⟨o1, o2⟩ := over_head l c r hm
      have hw : writ (N - (r.length + 1)) (glueB N l (c :: r)) c r = .ok (t, u) := h
      unfold writ at hw
      right
      split at hw
      · cases hq : qraw r with
        | none => rw [hq] at hw; cases hw
        | some q =>
          obtain ⟨x, v⟩ := q
          rw [hq] at hw
          cases hw
          have := qraw_len r x v hq
          exact ⟨by simp, by simp, rfl, by simp only [List.length_cons]; omega, rfl⟩
      · split at hw
        · obtain ⟨h1, h2, h3, h4⟩ := dollar_ok hw
          exact ⟨by omega, by simp, h2, by simp only [List.length_cons]; omega, h3⟩
        · split at hw
          · cases hw
          · rename_i c39 c36 c3896
            have hiw : inW c = true := inW_here hb0 o1 o2 c39 c36 (fun e => c3896 (Or.inl e)) (fun e => c3896 (Or.inr e))
            cases hw
            refine ⟨by simp, by simp, rfl, ?_, rfl⟩
            rw [List.dropWhile_cons, hiw]
            have := (List.dropWhile_sublist inW (l := r)).length_le
            simp only [List.length_cons, if_true]
            omega
theorem token_err {N : Nat} {l : List UInt8} {x : Er} (hl : l.length ≤ N) (h : tokenL N l = .error x) : x.pos < N ∧ over l ≠ [] := by
  unfold tokenL tokenM at h
  have ho := over_len l
  split at h
  · cases h
  · cases hm : over l with
    | nil => rw [hm] at h; cases h
    | cons c r =>
      rw [hm] at h ho
      refine ⟨?_, by simp⟩
      have hw : writ (N - (r.length + 1)) (glueB N l (c :: r)) c r = .error x := h
      simp only [List.length_cons] at ho
      unfold writ at hw
      split at hw
      · cases hq : qraw r with
        | none => rw [hq] at hw; cases hw; show N - (r.length + 1) < N; omega
        | some q => rw [hq] at hw; cases hw
      · split at hw
        · rw [dollar_err hw]; show N - (r.length + 1) < N; omega
        · split at hw
          · cases hw; show N - (r.length + 1) < N; omega
          · cases hw
end Go.Proofs.YtddekcohfbnmbaaDoor
