/- A quoted word, read alone and among others, plainly. -/
import Derived.Test.YtlihkblllakhmaaGreatDoorPQ
import Derived.Test.YtlihkblllakhmaaGreatDoorPureB
namespace Go.Proofs.YtlihkblllakhmaaGreatDoor

/-- What parts words stands here, or nothing. -/
def Ends (u : List UInt8) : Prop := ∀ d t, u = d :: t → endS.contains d = true
theorem Ends.nil : Ends [] := fun _ _ e => by cases e
theorem Ends.cons {c : UInt8} {t : List UInt8} (h : endS.contains c = true) : Ends (c :: t) := fun d t' e => by cases e; exact h
theorem parts_end (N f : Nat) (e u : List UInt8) (h : ∀ d t, u = d :: t → e.contains d = true) : partsL N e f u = .ok ([], u) := by
  match f, u, h with
  | 0, u, _ => rfl
  | f + 1, [], _ => rfl
  | f + 1, c :: t, h => rw [partsL, if_pos (h c t rfl)]
theorem bare_word (N : Nat) (c : UInt8) (r u : List UInt8) (hp : plainT (c :: r) = true) (h1 : c ≠ 123) (h2 : c ≠ 34) (hu : Ends u) : wordL N (c :: (r ++ u)) = .ok (⟨N - (c :: (r ++ u)).length, false, [⟨1, N - (c :: (r ++ u)).length, 0, c :: r⟩]⟩, u) := by
  have hst : stopP endS (c :: (r ++ u)) = false := by
    have hp' := hp
    simp only [plainT, Bool.and_eq_true, Bool.not_eq_true', bne_iff_ne, ne_eq] at hp'
    rw [stop_more c r u [32] hu (fun d t e => by cases e; decide)]
    exact hp'.1.1
  have hst' := hst
  simp only [stopP, Bool.or_eq_false_iff, beq_eq_false_iff_ne, ne_eq] at hst'
  obtain ⟨⟨h3, h4⟩, h5⟩ := hst'
  have hpl := plain_read u hu (c :: r) (c :: (r ++ u)).length (by simp) hp
  rw [List.cons_append] at hpl
  rw [wordL, if_neg (by simp [h1]), if_neg (by simp [h2]), List.length_cons, partsL, h3, if_neg (by simp), partL, if_neg (by simp [h4]), h5, if_neg (by simp), hpl]
  simp only
  rw [parts_end N _ endS u hu]
  rfl
theorem esc_read (u : List UInt8) : ∀ (l : List UInt8) (f : Nat), (escP l).length ≤ f → plainL [34] f (escP l ++ 34 :: u) = (l, 34 :: u)
  | [], f, _ => plain_stop _ _ _ (by simp [escP, stopP])
  | c :: l, f, h => by
    rw [escP_cons, escB] at h ⊢
    cases hc : isE c with
    | true =>
      rw [hc] at h
      simp only [if_true, List.cons_append, List.nil_append, List.length_cons] at h ⊢
      obtain ⟨f, rfl⟩ : ∃ g, f = g + 1 := ⟨f - 1, by omega⟩
      have hs : stopP [34] (92 :: c :: (escP l ++ 34 :: u)) = false := by simp [stopP, dolB]
      have he : escC c = c := by
        have : c = 34 ∨ c = 92 ∨ c = 36 ∨ c = 91 := by simpa [isE, esc4] using hc
        rcases this with rfl | rfl | rfl | rfl <;> decide
      rw [plain_more [34] f _ hs]
      simp only [pByte, if_true, List.drop_succ_cons, List.drop_zero, he, esc_read u l f (by omega)]
    | false =>
      rw [hc] at h
      simp only [Bool.false_eq_true, if_false, List.cons_append, List.nil_append, List.length_cons] at h ⊢
      obtain ⟨f, rfl⟩ : ∃ g, f = g + 1 := ⟨f - 1, by omega⟩
      have hn : c ≠ 34 ∧ c ≠ 92 ∧ c ≠ 36 ∧ c ≠ 91 := by
        refine ⟨?_, ?_, ?_, ?_⟩ <;> (rintro rfl; revert hc; decide)
      obtain ⟨n1, n2, n3, n4⟩ := hn
      have hd : dolB (c :: (escP l ++ 34 :: u)) = false := by
        cases escP l ++ 34 :: u with
        | nil => rfl
        | cons a b => simp [dolB, n3]
      have hs : stopP [34] (c :: (escP l ++ 34 :: u)) = false := by simp [stopP, hd, n1, n4]
      rw [plain_more [34] f _ hs]
      simp only [pByte, n2, if_false, List.drop_succ_cons, List.drop_zero, esc_read u l f (by omega)]
theorem quoted_word (N : Nat) (l u : List UInt8) (hu : Ends u) : ∃ w, wordL N (34 :: (escP l ++ 34 :: u)) = .ok (w, u) ∧ textL w = some l ∧ w.braced = false := by
  have hcl : ∀ w, closedL N w u = .ok (w, u) := by
    intro w
    cases u with
    | nil => rfl
    | cons d t => rw [closedL, if_pos (hu d t rfl)]
  cases l with
  | nil =>
    refine ⟨⟨N - (34 :: 34 :: u).length, false, [⟨1, N - (34 :: 34 :: u).length, 0, []⟩]⟩, ?_, rfl, rfl⟩
    rw [wordL, if_neg (by simp), if_pos (by rfl), List.tail_cons, show escP [] ++ 34 :: u = 34 :: u from rfl, parts_end N _ [34] (34 :: u) (fun d t e => by cases e; decide)]
    simp only [List.isEmpty_nil, if_true, hcl]
  | cons c l =>
    have hpl := esc_read u (c :: l) (escP (c :: l) ++ 34 :: u).length (by simp)
    obtain ⟨d, r, hdr, h1, h2, h3⟩ : ∃ d r, escP (c :: l) ++ 34 :: u = d :: r ∧ d ≠ 34 ∧ d ≠ 91 ∧ dolB (d :: r) = false := by
      rw [escP_cons, escB]
      cases hc : isE c with
      | true => exact ⟨92, c :: (escP l ++ 34 :: u), by simp, by decide, by decide, by simp [dolB]⟩
      | false =>
        refine ⟨c, escP l ++ 34 :: u, by simp, by rintro rfl; revert hc; decide, by rintro rfl; revert hc; decide, ?_⟩
        have n3 : c ≠ 36 := by rintro rfl; revert hc; decide
        cases escP l ++ 34 :: u with
        | nil => rfl
        | cons a b => simp [dolB, n3]
    rw [hdr] at hpl ⊢
    refine ⟨⟨N - (34 :: d :: r).length, false, [⟨1, N - (d :: r).length, 0, c :: l⟩]⟩, ?_, rfl, rfl⟩
    rw [wordL, if_neg (by simp), if_pos (by rfl), List.tail_cons, List.length_cons, partsL, if_neg (by simp [h1]), partL, if_neg (by simp [h2]), h3, if_neg (by simp), hpl]
    simp only
    rw [parts_end N _ [34] (34 :: u) (fun d t e => by cases e; decide)]
    simp only [List.isEmpty_cons, Bool.false_eq_true, if_false, hcl]
/-- What Quote makes of a text, read. -/
theorem quote_word (N : Nat) (l u : List UInt8) (hu : Ends u) : (∃ w, wordL N (quoteB l ++ u) = .ok (w, u) ∧ textL w = some l ∧ w.braced = false) ∧ ∃ c r, quoteB l = c :: r ∧ blk c = false ∧ c ≠ 35 ∧ sepS.contains c = false := by
  unfold quoteB
  cases hr : readsB (l ++ [32]) l with
  | true =>
    rw [if_pos rfl]
    obtain ⟨hp, c, r, rfl, h1, h2, h3, h4⟩ := reads_plain l hr
    refine ⟨⟨_, bare_word N c r u hp h3 h4 hu, rfl, rfl⟩, c, r, rfl, h1, h2, ?_⟩
    simp only [plainT, Bool.and_eq_true, Bool.not_eq_true'] at hp
    have h5 := hp.1.1
    cases hs : sepS.contains c with
    | false => rfl
    | true =>
      have hc : c = 10 ∨ c = 59 := by simpa [sepS] using hs
      rcases hc with rfl | rfl <;> simp [stopP, endS] at h5
  | false =>
    rw [if_neg (by simp)]
    refine ⟨?_, 34, _, rfl, by decide, by decide, by decide⟩
    rw [show 34 :: (escP l ++ [34]) ++ u = 34 :: (escP l ++ 34 :: u) by simp]
    exact quoted_word N l u hu
/-- Alone. -/
theorem quote_alone (l : List UInt8) : ∃ w, scanL (quoteB l) = .ok [⟨0, [w]⟩] ∧ textL w = some l ∧ w.braced = false := by
  obtain ⟨⟨w, h1, h2, h3⟩, c, r, h4, h5, h6, h7⟩ := quote_word (quoteB l).length l [] Ends.nil
  rw [List.append_nil] at h1
  rw [h4, List.length_cons] at h1
  rw [h4]
  exact ⟨w, scan_word c r w h5 h6 h7 h1, h2, h3⟩
theorem drop_blk (c : UInt8) (r : List UInt8) (h : blk c = false) : (32 :: (c :: r)).dropWhile blk = c :: r := by
  rw [List.dropWhile_cons, if_pos (by decide), List.dropWhile_cons, h]
  simp
/-- Among others. -/
theorem quote_among (l t : List UInt8) : ∃ w0 w1 w2 w3 n, scanL ([120, 32] ++ quoteB l ++ [32] ++ quoteB t ++ [59, 121]) = .ok [⟨0, [w0, w1, w2]⟩, ⟨n, [w3]⟩] ∧ textL w1 = some l ∧ textL w2 = some t := by
  obtain ⟨N, hN⟩ : ∃ N, N = ([120, 32] ++ quoteB l ++ [32] ++ quoteB t ++ [59, 121]).length := ⟨_, rfl⟩
  obtain ⟨⟨w1, a1, a2, _⟩, c1, r1, a4, a5, a6, a7⟩ := quote_word N l (32 :: (quoteB t ++ [59, 121])) (Ends.cons (by decide))
  obtain ⟨⟨w2, b1, b2, _⟩, c2, r2, b4, b5, b6, b7⟩ := quote_word N t [59, 121] (Ends.cons (by decide))
  rw [scanL, ← hN]
  have hS : [120, 32] ++ quoteB l ++ [32] ++ quoteB t ++ [59, 121] = 120 :: ([] ++ 32 :: (quoteB l ++ 32 :: (quoteB t ++ [59, 121]))) := by simp
  rw [hS] at hN ⊢
  have w0 := bare_word N 120 [] (32 :: (quoteB l ++ 32 :: (quoteB t ++ [59, 121]))) (by decide) (by decide) (by decide) (Ends.cons (by decide))
  have w3 := bare_word N 121 [] [] (by decide) (by decide) (by decide) Ends.nil
  rw [a4] at hN w0 a1 ⊢
  rw [b4] at hN w0 a1 b1 ⊢
  simp only [List.nil_append, List.cons_append, List.append_nil] at hN w0 w3 a1 b1 ⊢
  have ho : over (120 :: 32 :: c1 :: (r1 ++ 32 :: c2 :: (r2 ++ [59, 121]))) = 120 :: 32 :: c1 :: (r1 ++ 32 :: c2 :: (r2 ++ [59, 121])) := by
    have hb : blk 120 = false := by decide
    rw [over, overC, List.dropWhile_cons, hb]
    simp
  have hM : ∃ M, N = M + 1 + 1 + 1 + 1 := ⟨r1.length + r2.length + 3, by rw [hN]; simp; omega⟩
  obtain ⟨M, hM⟩ := hM
  have d1 : (59 :: [121] : List UInt8).dropWhile blk = [59, 121] := by
    rw [List.dropWhile_cons, if_neg (by decide)]
  have hws : wordsL N N (120 :: 32 :: c1 :: (r1 ++ 32 :: c2 :: (r2 ++ [59, 121]))) = .ok ([⟨N - (120 :: 32 :: c1 :: (r1 ++ 32 :: c2 :: (r2 ++ [59, 121]))).length, false, [⟨1, N - (120 :: 32 :: c1 :: (r1 ++ 32 :: c2 :: (r2 ++ [59, 121]))).length, 0, [120]⟩]⟩, w1, w2], [59, 121]) := by
    conv => lhs; arg 2; rw [hM]
    rw [wordsL, if_neg (by decide), w0]
    simp only
    rw [drop_blk _ _ a5, wordsL, a7, if_neg (by simp), a1]
    simp only
    rw [drop_blk _ _ b5, wordsL, b7, if_neg (by simp), b1]
    simp only
    rw [d1, wordsL, if_pos (by decide)]
  have hc1 : commandL N (120 :: 32 :: c1 :: (r1 ++ 32 :: c2 :: (r2 ++ [59, 121]))) = .ok (⟨0, [⟨N - (120 :: 32 :: c1 :: (r1 ++ 32 :: c2 :: (r2 ++ [59, 121]))).length, false, [⟨1, N - (120 :: 32 :: c1 :: (r1 ++ 32 :: c2 :: (r2 ++ [59, 121]))).length, 0, [120]⟩]⟩, w1, w2]⟩, [121]) := by
    rw [commandL, ho, ← hN, hws]
    simp only [← hN, Nat.sub_self, List.tail_cons]
  have hc2 : commandL N [121] = .ok (⟨N - 1, [⟨N - 1, false, [⟨1, N - 1, 0, [121]⟩]⟩]⟩, []) := by
    have ho2 : over [121] = [121] := by decide
    have hw : wordsL N 1 [121] = .ok ([⟨N - 1, false, [⟨1, N - 1, 0, [121]⟩]⟩], []) := by
      rw [wordsL, if_neg (by decide), w3]
      simp only [List.dropWhile_nil, words_doneB, List.length_cons, List.length_nil]
    rw [commandL, ho2, show ([121] : List UInt8).length = 1 from rfl, hw]
    rfl
  refine ⟨⟨N - (120 :: 32 :: c1 :: (r1 ++ 32 :: c2 :: (r2 ++ [59, 121]))).length, false, [⟨1, N - (120 :: 32 :: c1 :: (r1 ++ 32 :: c2 :: (r2 ++ [59, 121]))).length, 0, [120]⟩]⟩, w1, w2, ⟨N - 1, false, [⟨1, N - 1, 0, [121]⟩]⟩, N - 1, ?_, a2, b2⟩
  have h1 : scanW (commandL N) (M + 1 + 1 + 1 + 1) (120 :: 32 :: c1 :: (r1 ++ 32 :: c2 :: (r2 ++ [59, 121]))) = .ok [⟨0, [⟨N - (120 :: 32 :: c1 :: (r1 ++ 32 :: c2 :: (r2 ++ [59, 121]))).length, false, [⟨1, N - (120 :: 32 :: c1 :: (r1 ++ 32 :: c2 :: (r2 ++ [59, 121]))).length, 0, [120]⟩]⟩, w1, w2]⟩, ⟨N - 1, [⟨N - 1, false, [⟨1, N - 1, 0, [121]⟩]⟩]⟩] := by
    rw [scanW, hc1]
    simp only
    rw [scanW, hc2]
    simp only [scan_doneB, List.isEmpty_cons, Bool.false_eq_true, if_false, ← hN, Nat.sub_self]
  rw [← hM] at h1
  exact h1
end Go.Proofs.YtlihkblllakhmaaGreatDoor
