/- Plain: the tokens of a dollar and a name, with braces or not. -/
import Derived.Test.YtnlbjgioleoihaaGreatDoorRd19
namespace Go.Proofs.YtnlbjgioleoihaaGreatDoor

theorem wEnd_no {c : UInt8} (h : wEnd c = false) : c ≠ 32 ∧ c ≠ 9 ∧ c ≠ 10 ∧ c ≠ 59 ∧ c ≠ 38 ∧ c ≠ 124 ∧ c ≠ 40 ∧ c ≠ 41 ∧ c ≠ 60 ∧ c ≠ 62 := by
  refine ⟨?_, ?_, ?_, ?_, ?_, ?_, ?_, ?_, ?_, ?_⟩ <;> (rintro rfl; exact absurd h (by decide))
theorem pre_no {c d : UInt8} (l t : List UInt8) (h : c ≠ d) : (d :: l).isPrefixOf (c :: t) = false := by
  rw [List.isPrefixOf, beq_eq_false_iff_ne.2 (fun e => h e.symm), Bool.false_and]
theorem best_none {c : UInt8} (t : List UInt8) (h : wEnd c = false) : best 13 (c :: t) = 0 := by
  obtain ⟨_, _, h1, h2, h3, h4, h5, h6, h7, h8⟩ := wEnd_no h
  simp only [best, sgn, pre_no _ _ h1, pre_no _ _ h2, pre_no _ _ h3, pre_no _ _ h4, pre_no _ _ h5, pre_no _ _ h6, pre_no _ _ h7, pre_no _ _ h8, Bool.false_eq_true, and_false, if_false, List.length_nil, Nat.lt_irrefl, false_and]
theorem over_word {c : UInt8} (t : List UInt8) (h : wEnd c = false) (h35 : c ≠ 35) : over (c :: t) = c :: t := by
  obtain ⟨h1, h2, _⟩ := wEnd_no h
  have hb : blk c = false := by simp [blk, h1, h2]
  have hd : (c :: t).dropWhile blk = c :: t := by rw [List.dropWhile_cons, hb]; rfl
  rw [over, hd, if_neg (by simp [h35])]
theorem lex_word_ok {c : UInt8} {t : List UInt8} {ps : List Pt} {r : List UInt8} {R : List Tk} (hc : wEnd c = false) (h35 : c ≠ 35)
    (hw : word (t.length + 1) (t.length + 1) (c :: t) = .ok (ps, r)) (hR : lexW (fun m => tokenL (t.length + 1) (over m)) (t.length + 1) r = .ok R) : lexL (c :: t) = .ok (⟨13, 0, ps⟩ :: R) := by
  have h38 : c ≠ 38 := (wEnd_no hc).2.2.2.2.1
  have hT : tokenL (t.length + 1) (over (c :: t)) = .ok (⟨13, 0, ps⟩, r) := by
    rw [over_word t hc h35, tokenL, if_neg (by rw [best_none t hc]; simp)]
    simp only [h38, if_false, List.length_cons, hw, Nat.sub_self]
  rw [lexL, List.length_cons, lexW, hT]
  simp only [hR]
  rfl
theorem lex_word_err {c : UInt8} {t : List UInt8} {e : Er} (hc : wEnd c = false) (h35 : c ≠ 35)
    (hw : word (t.length + 1) (t.length + 1) (c :: t) = .error e) : lexL (c :: t) = .error e := by
  have h38 : c ≠ 38 := (wEnd_no hc).2.2.2.2.1
  have hT : tokenL (t.length + 1) (over (c :: t)) = .error e := by
    rw [over_word t hc h35, tokenL, if_neg (by rw [best_none t hc]; simp)]
    simp only [h38, if_false, List.length_cons, hw]
  rw [lexL, List.length_cons, lexW, hT]
/-- Nothing is left. -/
theorem lex_nil (N f : Nat) : lexW (fun m => tokenL N (over m)) (f + 1) [] = .ok [⟨0, N, []⟩] := rfl
theorem start_no {c : UInt8} (h : start8 c = true) : c ≠ 40 ∧ c ≠ 123 ∧ c ≠ 42 ∧ c ≠ 35 ∧ cnts c = false := by
  refine ⟨?_, ?_, ?_, ?_, ?_⟩
  · rintro rfl; exact absurd h (by decide)
  · rintro rfl; exact absurd h (by decide)
  · rintro rfl; exact absurd h (by decide)
  · rintro rfl; exact absurd h (by decide)
  · simp only [start8, startB, decide_eq_true_eq] at h
    simp only [cnts, Bool.and_eq_false_iff, decide_eq_false_iff_not]
    omega
theorem take_run {p : UInt8 → Bool} : ∀ (s : List UInt8) (d : UInt8) (r : List UInt8), s.all p = true → p d = false → (s ++ d :: r).takeWhile p = s
  | [], d, r, _, hd => by rw [List.nil_append, List.takeWhile_cons, hd]; rfl
  | c :: t, d, r, h, hd => by
    rw [List.all_cons, Bool.and_eq_true] at h
    rw [List.cons_append, List.takeWhile_cons, h.1]
    simp only [if_true]
    rw [take_run t d r h.2 hd]
theorem word_one (N f : Nat) (c : UInt8) (hw : wEnd c = false) (ht : tEnd c = false) (h92 : c ≠ 92) (h39 : c ≠ 39) (h34 : c ≠ 34) : word N (f + 1) [c] = .ok ([⟨1, N - 1, 0, false, [c]⟩], []) := by
  have hp : parts N c [] = .ok ([⟨1, N - 1, 0, false, [c]⟩], []) := by
    have hl : liv [c] = [c] := by simp [liv, ht, dolB]
    rw [parts, if_neg h92, if_neg h39, if_neg h34, if_neg (by simp [dolB]), hl]
    rfl
  rw [word_ok N f c [] hw _ _ hp, word_end _ _ _ (Or.inl rfl)]
  rfl
theorem names_dollar {c : UInt8} {t : List UInt8} (h1 : start8 c = true) (h2 : (c :: t).all cont8 = true) :
    lexL (36 :: c :: (t ++ [45])) = if nameB (c :: t) then .ok [⟨13, 0, [⟨3, 0, 0, false, c :: t⟩, ⟨1, (c :: t).length + 1, 0, false, [45]⟩]⟩, ⟨0, (c :: t).length + 2, []⟩] else .error ⟨0, 0⟩ := by
  obtain ⟨n1, n2, n3, n4, n5⟩ := start_no h1
  have hdb : dolB (36 :: c :: (t ++ [45])) = true := by simp [dolB, dolC, h1]
  have hn : nrun (c :: (t ++ [45])) = c :: t := by rw [nrun, if_pos h1]; exact take_run (c :: t) 45 [] h2 (by decide)
  have hp : parts ((c :: (t ++ [45])).length + 1) 36 (c :: (t ++ [45])) = if nameB (c :: t) then .ok ([⟨3, 0, 0, false, c :: t⟩], [45]) else .error ⟨0, 0⟩ := by
    rw [parts, if_neg (by decide), if_neg (by decide), if_neg (by decide), if_pos hdb, dollar, if_neg n1, if_neg n2, if_neg n3, if_neg n4, if_neg (by rw [n5]; simp), hn, varR]
    simp only [List.length_append, List.length_cons, List.length_nil]
    rw [show t.length + (0 + 1) + 1 + 1 - (t.length + (0 + 1) + 2) = 0 by omega, show (c :: (t ++ [45])).drop (t.length + 1) = [45] by simp]
    by_cases hb : nameB (c :: t) = true <;> simp [hb]
  by_cases hb : nameB (c :: t) = true
  · rw [if_pos hb] at hp ⊢
    have hw : word ((c :: (t ++ [45])).length + 1) ((c :: (t ++ [45])).length + 1) (36 :: c :: (t ++ [45])) = .ok ([⟨3, 0, 0, false, c :: t⟩, ⟨1, (c :: t).length + 1, 0, false, [45]⟩], []) := by
      rw [word_ok _ _ 36 _ (by decide) _ _ hp, List.length_cons, word_one _ _ 45 (by decide) (by decide) (by decide) (by decide) (by decide)]
      simp [preR]
    rw [lex_word_ok (by decide) (by decide) hw (lex_nil _ _)]
    simp
  · rw [if_neg hb] at hp ⊢
    exact lex_word_err (by decide) (by decide) (word_err _ _ 36 _ (by decide) _ hp)
theorem names_brace {c : UInt8} {t : List UInt8} (h2 : (c :: t).all cont8 = true) :
    lexL (120 :: 36 :: 123 :: (c :: t ++ [125, 121])) = if nameB (c :: t) then .ok [⟨13, 0, [⟨1, 0, 0, false, [120]⟩, ⟨3, 1, 0, false, c :: t⟩, ⟨1, (c :: t).length + 4, 0, false, [121]⟩]⟩, ⟨0, (c :: t).length + 5, []⟩] else .error ⟨0, 1⟩ := by
  have hdb : dolB (36 :: 123 :: (c :: t ++ [125, 121])) = true := rfl
  have hnb : (c :: t).all isNB = true := by
    rw [List.all_eq_true] at h2 ⊢
    intro x hx
    have := h2 x hx
    simp only [isNB, bne_iff_ne, ne_eq]
    rintro rfl
    exact absurd this (by decide)
  have hn : (c :: t ++ [125, 121]).takeWhile isNB = c :: t := take_run (c :: t) 125 [121] hnb (by decide)
  have hp0 : parts ((36 :: 123 :: (c :: t ++ [125, 121])).length + 1) 120 (36 :: 123 :: (c :: t ++ [125, 121])) = .ok ([⟨1, 0, 0, false, [120]⟩], 36 :: 123 :: (c :: t ++ [125, 121])) := by
    have hl : liv (120 :: 36 :: 123 :: (c :: t ++ [125, 121])) = [120] := by
      rw [liv, if_neg (by simp [dolB]; decide), liv, if_pos (by rw [hdb]; simp)]
    rw [parts, if_neg (by decide), if_neg (by decide), if_neg (by decide), if_neg (by simp [dolB]), hl, Nat.sub_self]
    rfl
  have hp : parts ((36 :: 123 :: (c :: t ++ [125, 121])).length + 1) 36 (123 :: (c :: t ++ [125, 121])) = if nameB (c :: t) then .ok ([⟨3, 1, 0, false, c :: t⟩], [121]) else .error ⟨0, 1⟩ := by
    rw [parts, if_neg (by decide), if_neg (by decide), if_neg (by decide), if_pos hdb, dollar, if_neg (by decide), if_pos rfl, hn, if_pos (by simp), varR]
    simp only [List.length_append, List.length_cons, List.length_nil]
    rw [show t.length + 1 + (0 + 1 + 1) + 1 + 1 + 1 - (t.length + 1 + (0 + 1 + 1) + 2) = 1 by omega, show (c :: t ++ [125, 121] : List UInt8).drop (t.length + 1 + 1) = [121] by simp]
    by_cases hb : nameB (c :: t) = true <;> simp [hb]
  by_cases hb : nameB (c :: t) = true
  · rw [if_pos hb] at hp ⊢
    have hw : word ((36 :: 123 :: (c :: t ++ [125, 121])).length + 1) ((36 :: 123 :: (c :: t ++ [125, 121])).length + 1) (120 :: 36 :: 123 :: (c :: t ++ [125, 121])) = .ok ([⟨1, 0, 0, false, [120]⟩, ⟨3, 1, 0, false, c :: t⟩, ⟨1, (c :: t).length + 4, 0, false, [121]⟩], []) := by
      rw [word_ok _ _ 120 _ (by decide) _ _ hp0, List.length_cons, word_ok _ _ 36 _ (by decide) _ _ (by rw [List.length_cons] at hp; exact hp), List.length_cons, word_one _ _ 121 (by decide) (by decide) (by decide) (by decide) (by decide)]
      simp [preR]
    rw [lex_word_ok (by decide) (by decide) hw (lex_nil _ _)]
    simp
  · rw [if_neg hb] at hp ⊢
    refine lex_word_err (by decide) (by decide) ?_
    rw [word_ok _ _ 120 _ (by decide) _ _ hp0, List.length_cons, word_err _ _ 36 _ (by decide) _ (by rw [List.length_cons] at hp; exact hp)]
    rfl
end Go.Proofs.YtnlbjgioleoihaaGreatDoor
