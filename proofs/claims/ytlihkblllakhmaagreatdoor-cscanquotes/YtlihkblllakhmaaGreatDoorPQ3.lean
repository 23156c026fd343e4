/- A text between braces, read alone and among others, plainly. -/
import Derived.Test.YtlihkblllakhmaaGreatDoorPQ2
namespace Go.Proofs.YtlihkblllakhmaaGreatDoor

theorem passB_app (b : List UInt8) : ∀ (f : Nat) (L : List UInt8) (n : Nat) (r : List UInt8), L.length ≤ f → passB n L = some r → passB n (L ++ b) = some (r ++ b)
  | _, [], n, r, _, h => by rw [passB_nil] at h; cases h
  | 0, c :: t, n, r, hf, _ => absurd hf (by simp)
  | f + 1, c :: t, n, r, hf, h => by
    simp only [List.length_cons] at hf
    rw [List.cons_append, passB_cons]
    rw [passB_cons] at h
    split
    · rename_i hc
      rw [if_pos hc] at h
      cases t with
      | nil => rw [List.tail_nil, passB_nil] at h; cases h
      | cons d t => exact passB_app b f t n r (by simp at hf; omega) h
    · rename_i hc
      rw [if_neg hc] at h
      split
      · rename_i hc
        rw [if_pos hc] at h
        exact passB_app b f t (n + 1) r (by omega) h
      · rename_i hc
        rw [if_neg hc] at h
        split
        · rename_i hc
          rw [if_pos hc] at h
          split
          · rename_i hn
            rw [if_pos hn] at h
            cases h
            rfl
          · rename_i hn
            rw [if_neg hn] at h
            exact passB_app b f t (n - 1) r (by omega) h
        · rename_i hc
          rw [if_neg hc] at h
          exact passB_app b f t n r (by omega) h
theorem passB_split (b : List UInt8) : ∀ (f : Nat) (a : List UInt8) (n : Nat) (r : List UInt8), a.length ≤ f → passB n (a ++ b) = some r → b.length ≤ r.length → ∃ r', passB n a = some r' ∧ r = r' ++ b
  | _, [], n, r, _, h, hl => by
    have := passB_lt _ _ _ _ (Nat.le_refl _) h
    simp at this
    omega
  | 0, c :: t, n, r, hf, _, _ => absurd hf (by simp)
  | f + 1, c :: t, n, r, hf, h, hl => by
    simp only [List.length_cons] at hf
    rw [List.cons_append, passB_cons] at h
    rw [passB_cons]
    split
    · rename_i hc
      rw [if_pos hc] at h
      cases t with
      | nil =>
        have := passB_lt _ _ _ _ (Nat.le_refl _) h
        simp at this
        omega
      | cons d t => exact passB_split b f t n r (by simp at hf; omega) h hl
    · rename_i hc
      rw [if_neg hc] at h
      split
      · rename_i hc
        rw [if_pos hc] at h
        exact passB_split b f t (n + 1) r (by omega) h hl
      · rename_i hc
        rw [if_neg hc] at h
        split
        · rename_i hc
          rw [if_pos hc] at h
          split
          · rename_i hn
            rw [if_pos hn] at h
            cases h
            exact ⟨t, rfl, rfl⟩
          · rename_i hn
            rw [if_neg hn] at h
            exact passB_split b f t (n - 1) r (by omega) h hl
        · rename_i hc
          rw [if_neg hc] at h
          exact passB_split b f t n r (by omega) h hl
/-- A braced word. -/
theorem braced_ok (N : Nat) (l u : List UInt8) (hb : passB 0 (l ++ [125]) = some []) (hu : Ends u) : wordL N (123 :: (l ++ 125 :: u)) = .ok (⟨N - (123 :: (l ++ 125 :: u)).length, true, [⟨1, N - (123 :: (l ++ 125 :: u)).length + 1, 0, l⟩]⟩, u) := by
  have h := passB_app u _ _ _ _ (Nat.le_refl _) hb
  rw [List.append_assoc, List.nil_append, List.singleton_append] at h
  have ht : (l ++ 125 :: u).take ((l ++ 125 :: u).length - u.length - 1) = l := by
    rw [show (l ++ 125 :: u).length - u.length - 1 = l.length by simp; omega, List.take_left']
    rfl
  rw [wordL, if_pos (by rfl), List.tail_cons, h]
  simp only [ht]
  cases u with
  | nil => rfl
  | cons d t => rw [closedL, if_pos (hu d t rfl)]
/-- What a braced word comes from. -/
theorem braced_of {N : Nat} {t u x : List UInt8} {w : Wd} (h : wordL N (123 :: t) = .ok (w, u)) (hx : textL w = some x) : passB 0 t = some u ∧ x.length = t.length - u.length - 1 ∧ u.length < t.length := by
  rw [wordL, if_pos (by rfl), List.tail_cons] at h
  cases hb : passB 0 t with
  | none => rw [hb] at h; cases h
  | some v =>
    rw [hb] at h
    simp only at h
    obtain rfl := closed_ok h
    have hlt := passB_lt _ _ _ _ (Nat.le_refl _) hb
    have hw : w = ⟨N - (123 :: t).length, true, [⟨1, N - (123 :: t).length + 1, 0, t.take (t.length - u.length - 1)⟩]⟩ := by
      unfold closedL at h
      cases u with
      | nil => cases h; rfl
      | cons c t =>
        simp only at h
        split at h
        · cases h; rfl
        · cases h
    rw [hw] at hx
    simp [textL] at hx
    have hlx := congrArg List.length hx
    rw [List.length_take] at hlx
    exact ⟨rfl, by omega, hlt⟩
/-- Is the second of three words braced, and just this text? -/
def fineB (R : Except Er (List Cm)) (l : List UInt8) : Bool := match R with
  | .ok [m] => (match m.words with
    | [_, w, _] => w.braced && (textL w == some l)
    | _ => false)
  | _ => false
def amongL (l : List UInt8) : List UInt8 := 120 :: 32 :: 123 :: (l ++ [125, 32, 121])
theorem among_words (N f : Nat) (R : List UInt8) : wordsL N (f + 1 + 1) (120 :: 32 :: 123 :: R) = preW [⟨N - (120 :: 32 :: 123 :: R).length, false, [⟨1, N - (120 :: 32 :: 123 :: R).length, 0, [120]⟩]⟩] (wordsL N (f + 1) (123 :: R)) := by
  have w0 := bare_word N 120 [] (32 :: 123 :: R) (by decide) (by decide) (by decide) (Ends.cons (by decide))
  simp only [List.nil_append] at w0
  rw [words_ok N (f + 1) 120 (32 :: 123 :: R) (by decide) _ _ w0, drop_blk 123 R (by decide)]
theorem among_over (R : List UInt8) : over (120 :: R) = 120 :: R := by
  have hb : blk 120 = false := by decide
  rw [over, overC, List.dropWhile_cons, hb]
  simp
theorem among_yes (l : List UInt8) (hb : passB 0 (l ++ [125]) = some []) : ∃ w0 w1 w2, scanL (amongL l) = .ok [⟨0, [w0, w1, w2]⟩] ∧ w1.braced = true ∧ textL w1 = some l := by
  obtain ⟨N, hN⟩ : ∃ N, N = (amongL l).length := ⟨_, rfl⟩
  have hw1 := braced_ok N l [32, 121] hb (Ends.cons (by decide))
  have w3 := bare_word N 121 [] [] (by decide) (by decide) (by decide) Ends.nil
  simp only [List.nil_append] at w3
  have hM : ∃ M, N = M + 1 + 1 + 1 := ⟨l.length + 3, by rw [hN, amongL]; simp⟩
  obtain ⟨M, hM⟩ := hM
  have d1 : (32 :: [121] : List UInt8).dropWhile blk = [121] := by decide
  have hws : wordsL N N (amongL l) = .ok ([⟨N - (amongL l).length, false, [⟨1, N - (amongL l).length, 0, [120]⟩]⟩, ⟨N - (123 :: (l ++ [125, 32, 121])).length, true, [⟨1, N - (123 :: (l ++ [125, 32, 121])).length + 1, 0, l⟩]⟩, ⟨N - 1, false, [⟨1, N - 1, 0, [121]⟩]⟩], []) := by
    have h1 := among_words N (M + 1) (l ++ [125, 32, 121])
    have h2 : wordsL N (M + 1 + 1) (123 :: (l ++ [125, 32, 121])) = .ok ([⟨N - (123 :: (l ++ [125, 32, 121])).length, true, [⟨1, N - (123 :: (l ++ [125, 32, 121])).length + 1, 0, l⟩]⟩, ⟨N - 1, false, [⟨1, N - 1, 0, [121]⟩]⟩], []) := by
      rw [words_ok N (M + 1) 123 _ (by decide) _ _ hw1, d1, words_ok N M 121 [] (by decide) _ _ w3]
      simp only [List.dropWhile_nil, words_doneB, preW]
      rfl
    rw [h2, ← hM] at h1
    exact h1
  refine ⟨⟨N - (amongL l).length, false, [⟨1, N - (amongL l).length, 0, [120]⟩]⟩, ⟨N - (123 :: (l ++ [125, 32, 121])).length, true, [⟨1, N - (123 :: (l ++ [125, 32, 121])).length + 1, 0, l⟩]⟩, ⟨N - 1, false, [⟨1, N - 1, 0, [121]⟩]⟩, ?_, rfl, rfl⟩
  have hc1 : commandL N (amongL l) = .ok (⟨N - N, [⟨N - (amongL l).length, false, [⟨1, N - (amongL l).length, 0, [120]⟩]⟩, ⟨N - (123 :: (l ++ [125, 32, 121])).length, true, [⟨1, N - (123 :: (l ++ [125, 32, 121])).length + 1, 0, l⟩]⟩, ⟨N - 1, false, [⟨1, N - 1, 0, [121]⟩]⟩]⟩, []) := by
    have ho : over (amongL l) = amongL l := among_over _
    rw [commandL, ho, ← hN]
    rw [hws]
    simp only [← hN, List.tail_nil]
  rw [scanL, ← hN]
  have h3 : scanW (commandL N) (M + 1 + 1 + 1) (amongL l) = .ok [⟨N - N, [⟨N - (amongL l).length, false, [⟨1, N - (amongL l).length, 0, [120]⟩]⟩, ⟨N - (123 :: (l ++ [125, 32, 121])).length, true, [⟨1, N - (123 :: (l ++ [125, 32, 121])).length + 1, 0, l⟩]⟩, ⟨N - 1, false, [⟨1, N - 1, 0, [121]⟩]⟩]⟩] := by
    have e : amongL l = 120 :: (32 :: 123 :: (l ++ [125, 32, 121])) := rfl
    rw [e, scanW, ← e, hc1]
    simp only [scan_doneB, List.isEmpty_cons, Bool.false_eq_true, if_false]
  rw [← hM] at h3
  simp only [Nat.sub_self, ← hN] at h3 ⊢
  exact h3
/-- The first word of a source that begins with one. -/
theorem scan_first {c : UInt8} {t : List UInt8} {ms : List Cm} (h : scanL (c :: t) = .ok ms) (ho : over (c :: t) = c :: t) (hs : sepS.contains c = false) : ∃ m ms' w ws v, ms = m :: ms' ∧ m.words = w :: ws ∧ wordsL (t.length + 1) (t.length + 1) (c :: t) = .ok (w :: ws, v) := by
  rw [scanL, List.length_cons, scanW] at h
  cases hc : commandL (t.length + 1) (c :: t) with
  | error x => rw [hc] at h; cases h
  | ok q =>
    rw [hc] at h
    simp only at h
    cases hr : scanW (commandL (t.length + 1)) t.length q.2 with
    | error x => rw [hr] at h; cases h
    | ok ms' =>
      rw [hr] at h
      simp only [Except.ok.injEq] at h
      unfold commandL at hc
      rw [ho, List.length_cons] at hc
      cases hw : wordsL (t.length + 1) (t.length + 1) (c :: t) with
      | error x => rw [hw] at hc; cases hc
      | ok r =>
        rw [hw] at hc
        simp only [Except.ok.injEq] at hc
        obtain ⟨ws, v⟩ := r
        cases ws with
        | nil =>
          have hv := words_empty hw
          rw [wordsL, hs, if_neg (by simp)] at hw
          cases hp : wordL (t.length + 1) (c :: t) with
          | error x => rw [hp] at hw; cases hw
          | ok q' =>
            rw [hp] at hw
            simp only at hw
            cases hq : wordsL (t.length + 1) t.length (q'.2.dropWhile blk) with
            | error x => rw [hq] at hw; cases hw
            | ok r => rw [hq] at hw; cases hw
        | cons w ws =>
          rw [← hc] at h
          simp only [List.isEmpty_cons, Bool.false_eq_true, if_false] at h
          exact ⟨_, ms', w, ws, v, h.symm, rfl, rfl⟩
theorem brace_yes (l : List UInt8) (hl : l.length ≤ 300) (hb : passB 0 (l ++ [125]) = some []) : braceB l = some (bracedL l) := by
  have hw := braced_ok (l.length + 2) l [] hb Ends.nil
  have hs : scanL (bracedL l) = .ok [⟨0, [⟨0, true, [⟨1, 1, 0, l⟩]⟩]⟩] := by
    refine scan_word 123 (l ++ [125]) _ (by decide) (by decide) (by decide) ?_
    have e : (l ++ [125]).length + 1 = l.length + 2 := by simp
    rw [e, hw]
    simp
  have hr : readsB (bracedL l) l = true := by
    rw [readsB, if_pos (by simp [bracedL]; omega), hs]
    simp [oneW, textL]
  rw [braceB, hr, if_pos rfl]
theorem brace_no (l : List UInt8) (hb : passB 0 (l ++ [125]) ≠ some []) : braceB l = none := by
  rw [braceB]
  cases hr : readsB (bracedL l) l with
  | false => rfl
  | true =>
    exfalso
    unfold readsB at hr
    split at hr
    · simp only [beq_iff_eq] at hr
      unfold oneW at hr
      split at hr
      · rename_i m hsc
        split at hr
        · rename_i w hm
          have ho : over (123 :: (l ++ [125])) = 123 :: (l ++ [125]) := by
            have hb : blk 123 = false := by decide
            rw [over, overC, List.dropWhile_cons, hb]
            simp
          obtain ⟨m', ms', w', ws, v, e1, e2, e3⟩ := scan_first (c := 123) (t := l ++ [125]) hsc ho (by decide)
          cases e1
          rw [hm] at e2
          cases e2
          obtain ⟨_, u, e4⟩ := words_first e3
          obtain ⟨f1, f2, f3⟩ := braced_of e4 hr
          simp at f2 f3
          have : u = [] := List.eq_nil_of_length_eq_zero (by omega)
          rw [this] at f1
          exact hb f1
        · cases hr
      · cases hr
    · cases hr
theorem among_no (l : List UInt8) (hb : passB 0 (l ++ [125]) ≠ some []) : fineB (scanL (amongL l)) l = false := by
  cases hf : fineB (scanL (amongL l)) l with
  | false => rfl
  | true =>
    exfalso
    unfold fineB at hf
    split at hf
    · rename_i m hsc
      split at hf
      · rename_i w0 w1 w2 hm
        simp only [Bool.and_eq_true, beq_iff_eq] at hf
        obtain ⟨m', ms', w', ws, v, e1, e2, e3⟩ := scan_first (c := 120) (t := 32 :: 123 :: (l ++ [125, 32, 121])) hsc (among_over _) (by decide)
        cases e1
        rw [hm] at e2
        cases e2
        rw [show (32 :: 123 :: (l ++ [125, 32, 121])).length + 1 = (l ++ [125, 32, 121]).length + 1 + 1 + 1 by simp, among_words] at e3
        cases hq : wordsL ((l ++ [125, 32, 121]).length + 1 + 1 + 1) ((l ++ [125, 32, 121]).length + 1 + 1) (123 :: (l ++ [125, 32, 121])) with
        | error x => rw [hq] at e3; cases e3
        | ok q =>
          rw [hq] at e3
          simp only [preW, Except.ok.injEq, Prod.mk.injEq, List.singleton_append, List.cons.injEq] at e3
          obtain ⟨ws', v'⟩ := q
          simp only at e3
          rw [e3.1.2] at hq
          obtain ⟨_, u, e4⟩ := words_first hq
          obtain ⟨f1, f2, f3⟩ := braced_of e4 hf.2
          simp at f2 f3
          have hl : (l ++ [125, 32, 121]) = (l ++ [125]) ++ [32, 121] := by simp
          rw [hl] at f1
          obtain ⟨r', g1, g2⟩ := passB_split [32, 121] _ _ _ _ (Nat.le_refl _) f1 (by simp; omega)
          have : r' = [] := List.eq_nil_of_length_eq_zero (by
            have := congrArg List.length g2
            simp at this
            omega)
          rw [this] at g1
          exact hb g1
      · cases hf
    · cases hf
/-- A text may stand between braces alone just where it may among others. -/
theorem among_brace (l : List UInt8) (hl : l.length ≤ 300) : fineB (scanL (amongL l)) l = (braceB l).isSome ∧ (braceB l = none ∨ braceB l = some (bracedL l)) := by
  by_cases hb : passB 0 (l ++ [125]) = some []
  · obtain ⟨w0, w1, w2, h1, h2, h3⟩ := among_yes l hb
    rw [h1, brace_yes l hl hb]
    refine ⟨?_, .inr rfl⟩
    simp [fineB, h2, h3]
  · rw [among_no l hb, brace_no l hb]
    exact ⟨rfl, .inl rfl⟩
end Go.Proofs.YtlihkblllakhmaaGreatDoor
