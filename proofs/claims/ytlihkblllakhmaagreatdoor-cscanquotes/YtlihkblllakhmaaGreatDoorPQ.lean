/- What Quote makes of a text is read as that text, plainly. -/
import Derived.Test.YtlihkblllakhmaaGreatDoorQu8
namespace Go.Proofs.YtlihkblllakhmaaGreatDoor

/-! ### a plain text -/
/-- Each byte of a text stands for itself, whatever parts words behind it. -/
def plainT : List UInt8 → Bool
  | [] => true
  | c :: r => !stopP endS (c :: (r ++ [32])) && c != 92 && plainT r
theorem stop_more (c : UInt8) (r : List UInt8) (u v : List UInt8) (hu : ∀ d t, u = d :: t → endS.contains d = true) (hv : ∀ d t, v = d :: t → endS.contains d = true) : stopP endS (c :: (r ++ u)) = stopP endS (c :: (r ++ v)) := by
  have key : ∀ w : List UInt8, (∀ d t, w = d :: t → endS.contains d = true) → dolB (c :: w) = false := by
    intro w hw
    cases w with
    | nil => rfl
    | cons d t =>
      have h := hw d t rfl
      have hd : d = 32 ∨ d = 9 ∨ d = 10 ∨ d = 59 := by simpa [endS] using h
      rcases hd with rfl | rfl | rfl | rfl <;> (simp only [dolB]; rw [show dolC _ = false from by decide]; simp)
  cases r with
  | nil =>
    simp only [List.nil_append, stopP]
    rw [key u hu, key v hv]
  | cons d r => simp only [List.cons_append, stopP, dolB]
theorem plain_read (u : List UInt8) (hu : ∀ d t, u = d :: t → endS.contains d = true) : ∀ (l : List UInt8) (f : Nat), l.length ≤ f → plainT l = true → plainL endS f (l ++ u) = (l, u)
  | [], f, _, _ => by
    refine plain_stop endS f u ?_
    cases u with
    | nil => rfl
    | cons d t =>
      have := hu d t rfl
      simp only [stopP]
      rw [this]
      rfl
  | c :: r, 0, h, _ => absurd h (by simp)
  | c :: r, f + 1, h, hp => by
    simp only [plainT, Bool.and_eq_true, Bool.not_eq_true', bne_iff_ne, ne_eq] at hp
    obtain ⟨⟨h1, h2⟩, h3⟩ := hp
    have hs : stopP endS (c :: (r ++ u)) = false := by
      rw [stop_more c r u [32] hu (fun d t e => by cases e; decide)]
      exact h1
    have hb : pByte (c :: (r ++ u)) = (c, 1) := by simp [pByte, h2]
    rw [List.cons_append, plain_more endS f _ hs, hb]
    have ih := plain_read u hu r f (by simpa using h) h3
    simp only [List.drop_succ_cons, List.drop_zero, ih]
/-- A plain part that takes as many bytes as it says is plain. -/
theorem plain_eq (e : List UInt8) : ∀ (f : Nat) (L x u : List UInt8), L.length ≤ f → plainL e f L = (x, u) → x.length + u.length = L.length → L = x ++ u ∧ (∀ a c b, x = a ++ c :: b → stopP e (c :: (b ++ u)) = false ∧ (c ≠ 92 ∨ b ++ u = []))
  | 0, L, x, u, hf, h, _ => by
    obtain rfl : L = [] := List.eq_nil_of_length_eq_zero (by omega)
    cases h
    exact ⟨rfl, fun a c b e' => by simp at e'⟩
  | f + 1, L, x, u, hf, h, hl => by
    cases hs : stopP e L with
    | true =>
      rw [plain_stop e (f + 1) L hs] at h
      cases h
      exact ⟨rfl, fun a c b e' => by simp at e'⟩
    | false =>
      rw [plain_more e f L hs] at h
      injection h with h1 h2
      match L, hs, hf, h1, h2, hl with
      | [], hs, _, _, _, _ => cases hs
      | c :: r, hs, hf, h1, h2, hl =>
        by_cases hc : c = 92
        · subst hc
          have hle := plain_le e f ((92 :: r).drop (pByte (92 :: r)).2)
          rw [← h1, List.length_cons, ← h2, List.length_cons] at hl
          cases r with
          | nil =>
            have hd : plainL e f [] = ([], []) := plain_stop e f [] rfl
            simp only [pByte, if_true, List.drop_succ_cons, List.drop_zero, hd] at h1 h2
            subst h1 h2
            refine ⟨rfl, fun a c b e' => ?_⟩
            cases a with
            | nil =>
              simp at e'
              obtain ⟨rfl, rfl⟩ := e'
              exact ⟨hs, .inr rfl⟩
            | cons a0 a => simp at e'
          | cons d r =>
            exfalso
            simp [pByte] at hl hle
            omega
        · have hb : pByte (c :: r) = (c, 1) := by simp [pByte, hc]
          rw [hb] at h1 h2
          simp only [List.drop_succ_cons, List.drop_zero] at h1 h2
          have hx : x = c :: (plainL e f r).1 := h1.symm
          have ih := plain_eq e f r (plainL e f r).1 u (by simpa using hf) (by rw [← h2]) (by rw [hx] at hl; simp at hl; omega)
          refine ⟨by rw [hx, List.cons_append, ← ih.1], ?_⟩
          intro a c' b e'
          rw [hx] at e'
          cases a with
          | nil =>
            simp at e'
            obtain ⟨rfl, rfl⟩ := e'
            rw [← ih.1]
            exact ⟨hs, .inl hc⟩
          | cons a0 a =>
            simp at e'
            exact ih.2 a c' b e'.2
/-- A plain part that takes the last blank has a backslash ahead of it. -/
theorem plain_end (e : List UInt8) (he : e.contains 32 = true) : ∀ (f : Nat) (L x : List UInt8), (L ++ [32]).length ≤ f → plainL e f (L ++ [32]) = (x, []) → ∃ L0 x0, L = L0 ++ [92] ∧ x = x0 ++ [32]
  | 0, L, x, hf, _ => absurd hf (by simp)
  | f + 1, [], x, _, h => by
    rw [List.nil_append, plain_stop e (f + 1) [32] (by simp only [stopP]; rw [he]; rfl)] at h
    cases h
  | f + 1, c :: r, x, hf, h => by
    cases hs : stopP e (c :: r ++ [32]) with
    | true =>
      rw [plain_stop e (f + 1) _ hs] at h
      cases h
    | false =>
      rw [plain_more e f _ hs] at h
      injection h with h1 h2
      by_cases hc : c = 92
      · subst hc
        cases r with
        | nil =>
          have hd : plainL e f [] = ([], []) := plain_stop e f [] rfl
          have hb : pByte ([92] ++ [32]) = (32, 2) := by simp [pByte, escC]
          rw [hb] at h1
          simp only [List.cons_append, List.nil_append, List.drop_succ_cons, List.drop_zero, hd] at h1
          exact ⟨[], [], rfl, h1.symm⟩
        | cons d r =>
          have hb : pByte (92 :: d :: r ++ [32]) = (escC d, 2) := by simp [pByte]
          rw [hb] at h1 h2
          simp only [List.cons_append, List.drop_succ_cons, List.drop_zero] at h1 h2
          obtain ⟨L0, x0, e1, e2⟩ := plain_end e he f r (plainL e f (r ++ [32])).1 (by simp at hf ⊢; omega) (Prod.ext rfl h2)
          exact ⟨92 :: d :: L0, escC d :: x0, by rw [e1]; rfl, by rw [← h1, e2]; rfl⟩
      · have hb : pByte (c :: r ++ [32]) = (c, 1) := by simp [pByte, hc]
        rw [hb] at h1 h2
        simp only [List.cons_append, List.drop_succ_cons, List.drop_zero] at h1 h2
        obtain ⟨L0, x0, e1, e2⟩ := plain_end e he f r (plainL e f (r ++ [32])).1 (by simp at hf ⊢; omega) (Prod.ext rfl h2)
        exact ⟨c :: L0, c :: x0, by rw [e1]; rfl, by rw [← h1, e2]; rfl⟩
theorem dollar_kind {N : Nat} {l : List UInt8} {p : Pt} {u : List UInt8} (h : dollar N l = .ok (p, u)) : p.kind ≠ 1 := by
  match l, h with
  | [], h => cases h
  | [_], h => cases h
  | a :: c :: t, h =>
    rw [dollar] at h
    split at h
    · cases h; simp
    · split at h
      · cases h; simp
      · split at h
        · cases h
        · cases h; simp
/-- The only part, where it is a text. -/
theorem parts_one {N f : Nat} {e L v : List UInt8} {p : Pt} (h : partsL N e f L = .ok ([p], v)) (hk : p.kind = 1) : plainL e L.length L = (p.s, v) := by
  match f, L, h with
  | 0, L, h => cases h
  | f + 1, [], h => cases h
  | f + 1, c :: t, h =>
    rw [partsL] at h
    split at h
    · cases h
    · cases hp : partL N e (c :: t) with
      | error x => rw [hp] at h; cases h
      | ok q =>
        rw [hp] at h
        simp only at h
        cases hq : partsL N e f q.2 with
        | error x => rw [hq] at h; cases h
        | ok r =>
          rw [hq] at h
          simp only [Except.ok.injEq, Prod.mk.injEq, List.cons.injEq] at h
          obtain ⟨⟨h1, h2⟩, h3⟩ := h
          have hv : r.2 = q.2 := by
            match f, q.2, hq with
            | 0, l, hq => cases hq; rfl
            | f + 1, [], hq => cases hq; rfl
            | f + 1, d :: t', hq =>
              rw [partsL] at hq
              split at hq
              · cases hq; rfl
              · cases hp' : partL N e (d :: t') with
                | error x => rw [hp'] at hq; cases hq
                | ok q' =>
                  rw [hp'] at hq
                  simp only at hq
                  cases hq' : partsL N e f q'.2 with
                  | error x => rw [hq'] at hq; cases hq
                  | ok r' =>
                    rw [hq'] at hq
                    simp only [Except.ok.injEq] at hq
                    rw [← hq] at h2
                    cases h2
          rw [partL] at hp
          split at hp
          · cases hk' : passK 0 0 (c :: t).tail with
            | none => rw [hk'] at hp; cases hp
            | some u' =>
              rw [hk'] at hp
              simp only [Except.ok.injEq] at hp
              rw [← h1, ← hp] at hk
              cases hk
          · split at hp
            · exact absurd (h1 ▸ hk) (dollar_kind hp)
            · simp only [Except.ok.injEq] at hp
              rw [← h1, ← h3, hv, ← hp]
/-- How much of a source a word's text takes. -/
theorem word_text {N : Nat} {P u x : List UInt8} {w : Wd} (h : wordL N P = .ok (w, u)) (hx : textL w = some x) : x.length + u.length + 2 ≤ P.length ∨ (P.head? ≠ some 123 ∧ P.head? ≠ some 34 ∧ plainL endS P.length P = (x, u)) := by
  rw [wordL] at h
  split at h
  · rename_i h123
    left
    cases hb : passB 0 P.tail with
    | none => rw [hb] at h; cases h
    | some v =>
      rw [hb] at h
      simp only at h
      obtain rfl := closed_ok h
      have hw : w = ⟨N - P.length, true, [⟨1, N - P.length + 1, 0, P.tail.take (P.tail.length - u.length - 1)⟩]⟩ := by
        unfold closedL at h
        cases u with
        | nil => cases h; rfl
        | cons c t =>
          simp only at h
          split at h
          · cases h; rfl
          · cases h
      rw [hw] at hx
      simp [textL] at hx
      have hlt := passB_lt _ _ _ _ (Nat.le_refl _) hb
      have hlx := congrArg List.length hx
      rw [List.length_take, List.length_tail] at hlx
      rw [List.length_tail] at hlt
      omega
  · split at h
    · rename_i h123 h34
      left
      have hne : P ≠ [] := fun e => by rw [e] at h34; cases h34
      cases hp : partsL N [34] P.length P.tail with
      | error y => rw [hp] at h; cases h
      | ok q =>
        rw [hp] at h
        obtain ⟨ps, v⟩ := q
        cases v with
        | nil => cases h
        | cons c v =>
          simp only at h
          obtain rfl := closed_ok h
          have hle := parts_le _ _ _ _ _ _ hp
          have hl1 : P.length = P.tail.length + 1 := by
            cases P with
            | nil => exact absurd rfl hne
            | cons a b => rfl
          have hw : w = ⟨N - P.length, false, if ps.isEmpty then [⟨1, N - P.length, 0, []⟩] else ps⟩ := by
            unfold closedL at h
            cases u with
            | nil => cases h; rfl
            | cons c t =>
              simp only at h
              split at h
              · cases h; rfl
              · cases h
          rw [hw] at hx
          cases ps with
          | nil =>
            simp [textL] at hx
            subst hx
            simp at hle ⊢
            omega
          | cons p ps =>
            cases ps with
            | cons p' ps => simp [textL] at hx
            | nil =>
              simp [textL] at hx
              have hpl := parts_one hp hx.1
              have hcnt := plain_le [34] P.tail.length P.tail
              rw [hpl, hx.2] at hcnt
              simp at hcnt ⊢
              omega
    · rename_i h123 h34
      right
      refine ⟨h123, h34, ?_⟩
      cases hp : partsL N endS P.length P with
      | error y => rw [hp] at h; cases h
      | ok q =>
        rw [hp] at h
        simp only [Except.ok.injEq, Prod.mk.injEq] at h
        obtain ⟨rfl, rfl⟩ := h
        obtain ⟨ps, v⟩ := q
        match ps, hx, hp with
        | [], hx, hp => simp [textL] at hx
        | [p], hx, hp =>
          simp [textL] at hx
          rw [parts_one hp hx.1, hx.2]
        | _ :: _ :: _, hx, hp => simp [textL] at hx
theorem over_suffix (l : List UInt8) : ∃ a, l = a ++ over l := by
  unfold over overC
  obtain ⟨a, ha⟩ := List.dropWhile_suffix (l := l) blk
  split
  · obtain ⟨b, hb⟩ := List.dropWhile_suffix (l := l.dropWhile blk) notNl
    exact ⟨a ++ b, by rw [List.append_assoc, hb, ha]⟩
  · exact ⟨a, ha.symm⟩
theorem words_empty {N f : Nat} {L v : List UInt8} (h : wordsL N f L = .ok ([], v)) : v = L := by
  match f, L, h with
  | 0, L, h => cases h; rfl
  | f + 1, [], h => cases h; rfl
  | f + 1, c :: t, h =>
    rw [wordsL] at h
    split at h
    · cases h; rfl
    · cases hp : wordL N (c :: t) with
      | error x => rw [hp] at h; cases h
      | ok q =>
        rw [hp] at h
        simp only at h
        cases hq : wordsL N f (q.2.dropWhile blk) with
        | error x => rw [hq] at h; cases h
        | ok r => rw [hq] at h; cases h
theorem words_first {N f : Nat} {L v : List UInt8} {w : Wd} {ws : List Wd} (h : wordsL N f L = .ok (w :: ws, v)) : L ≠ [] ∧ ∃ u, wordL N L = .ok (w, u) := by
  match f, L, h with
  | 0, L, h => cases h
  | f + 1, [], h => cases h
  | f + 1, c :: t, h =>
    rw [wordsL] at h
    split at h
    · cases h
    · cases hp : wordL N (c :: t) with
      | error x => rw [hp] at h; cases h
      | ok q =>
        rw [hp] at h
        simp only at h
        cases hq : wordsL N f (q.2.dropWhile blk) with
        | error x => rw [hq] at h; cases h
        | ok r =>
          rw [hq] at h
          simp only [Except.ok.injEq, Prod.mk.injEq, List.cons.injEq] at h
          exact ⟨by simp, q.2, by rw [← h.1.1]⟩
/-- Where the first word of the only command is read. -/
theorem scan_only (N : Nat) (m : Cm) (w : Wd) (ws : List Wd) (hm : m.words = w :: ws) : ∀ (f : Nat) (S : List UInt8), scanW (commandL N) f S = .ok [m] → ∃ S0 P u, S = S0 ++ P ∧ P ≠ [] ∧ wordL N P = .ok (w, u) ∧ (S0 = [] → over S = S)
  | 0, S, h => by cases h
  | f + 1, [], h => by cases h
  | f + 1, c :: t, h => by
    rw [scanW] at h
    cases hc : commandL N (c :: t) with
    | error x => rw [hc] at h; cases h
    | ok q =>
      rw [hc] at h
      simp only at h
      cases hr : scanW (commandL N) f q.2 with
      | error x => rw [hr] at h; cases h
      | ok ms =>
        rw [hr] at h
        simp only [Except.ok.injEq] at h
        unfold commandL at hc
        cases hw : wordsL N (over (c :: t)).length (over (c :: t)) with
        | error x => rw [hw] at hc; cases hc
        | ok r =>
          rw [hw] at hc
          simp only [Except.ok.injEq] at hc
          obtain ⟨a, ha⟩ := over_suffix (c :: t)
          split at h
          · rename_i he
            rw [← hc] at he
            simp only [List.isEmpty_iff] at he
            have hv := words_empty (v := r.2) (by rw [hw, ← he])
            rw [h] at hr
            obtain ⟨S0, P, u, e1, e2, e3, _⟩ := scan_only N m w ws hm f q.2 hr
            rw [← hc] at e1
            simp only at e1
            rw [hv] at e1
            cases ho : over (c :: t) with
            | nil =>
              rw [ho] at e1
              simp at e1
              exact absurd e1.2 e2
            | cons d o =>
              rw [ho] at e1 ha
              simp only [List.tail_cons] at e1
              refine ⟨a ++ (d :: S0), P, u, by rw [ha, e1]; simp, e2, e3, fun e => by simp at e⟩
          · simp only [List.cons.injEq] at h
            rw [← h.1, ← hc] at hm
            simp only at hm
            obtain ⟨h1, u, h2⟩ := words_first (v := r.2) (by rw [hw, ← hm])
            exact ⟨a, over (c :: t), u, ha, h1, h2, fun e => by rw [e] at ha; exact ha.symm⟩
theorem plainT_of : ∀ (l : List UInt8), (∀ a c b, l = a ++ c :: b → stopP endS (c :: (b ++ [32])) = false ∧ (c ≠ 92 ∨ b ++ [32] = [])) → plainT l = true
  | [], _ => rfl
  | c :: r, h => by
    obtain ⟨h1, h2⟩ := h [] c r rfl
    have h3 : c ≠ 92 := by
      rcases h2 with e | e
      · exact e
      · simp at e
    simp [plainT, h1, h3, plainT_of r fun a d b e => h (c :: a) d b (by rw [e]; rfl)]
theorem over_hash (r : List UInt8) : over (35 :: r) ≠ 35 :: r := by
  intro h
  have hb : blk 35 = false := by decide
  have hn : notNl 35 = true := by decide
  rw [over, List.dropWhile_cons, hb] at h
  simp only [Bool.false_eq_true, if_false, overC, List.head?_cons, if_true] at h
  rw [List.dropWhile_cons, hn] at h
  simp only [if_true] at h
  have h1 : (r.dropWhile notNl).length ≤ r.length := (List.dropWhile_sublist _).length_le
  rw [h] at h1
  simp only [List.length_cons] at h1
  omega
/-- A text that reads is as it is: each of its bytes stands for itself. -/
theorem reads_plain (l : List UInt8) (h : readsB (l ++ [32]) l = true) : plainT l = true ∧ ∃ c r, l = c :: r ∧ blk c = false ∧ c ≠ 35 ∧ c ≠ 123 ∧ c ≠ 34 := by
  unfold readsB at h
  split at h
  · rename_i hs8
    simp only [beq_iff_eq] at h
    unfold oneW at h
    split at h
    · rename_i m hsc
      split at h
      · rename_i w hm
        obtain ⟨S0, P, u, e1, e2, e3, e4⟩ := scan_only _ m w [] hm _ _ hsc
        have hP : ∃ P', P = P' ++ [32] := by
          have hlast := congrArg List.getLast? e1
          rw [List.getLast?_concat, List.getLast?_append] at hlast
          cases hp : P.getLast? with
          | none => exact absurd (List.getLast?_eq_none_iff.1 hp) e2
          | some z =>
            rw [hp] at hlast
            simp at hlast
            rw [← hlast] at hp
            obtain ⟨P', hP'⟩ := List.getLast?_eq_some_iff.1 hp
            exact ⟨P', hP'⟩
        obtain ⟨P', rfl⟩ := hP
        have hlen := congrArg List.length e1
        simp at hlen
        rcases word_text e3 h with hk | ⟨h1, h2, h3⟩
        · simp at hk
          omega
        · have hcnt := plain_le endS (P' ++ [32]).length (P' ++ [32])
          rw [h3] at hcnt
          simp at hcnt
          have hu : u = [] ∨ u ≠ [] := by
            cases u with
            | nil => exact .inl rfl
            | cons a b => exact .inr (by simp)
          rcases hu with rfl | hu
          · exfalso
            obtain ⟨L0, x0, g1, g2⟩ := plain_end endS (by decide) _ P' l (Nat.le_refl _) h3
            by_cases h0 : S0 = []
            · subst h0
              have : P' = l := by simpa using e1.symm
              rw [this, g2] at g1
              have := congrArg List.getLast? g1
              simp at this
            · have hS0 : 1 ≤ S0.length := by
                cases S0 with
                | nil => exact absurd rfl h0
                | cons a b => simp
              obtain ⟨g3, g4⟩ := plain_eq endS _ _ _ _ (Nat.le_refl _) h3 (by simp; simp at hcnt; omega)
              rw [List.append_nil] at g3
              have := g4 P' 32 [] g3.symm
              simp [stopP, endS] at this
          · have hu1 : 1 ≤ u.length := by
              cases u with
              | nil => exact absurd rfl hu
              | cons a b => simp
            have hS0 : S0 = [] := List.eq_nil_of_length_eq_zero (by omega)
            subst hS0
            have : P' = l := by simpa using e1.symm
            subst this
            obtain ⟨g3, g4⟩ := plain_eq endS _ _ _ _ (Nat.le_refl _) h3 (by simp; omega)
            have hu32 : u = [32] := (List.append_cancel_left g3).symm
            subst hu32
            have hov := e4 rfl
            have hne : P' ≠ [] := by
              rintro rfl
              exact absurd hov (by decide)
            have hpt := plainT_of P' g4
            refine ⟨hpt, ?_⟩
            cases P' with
            | nil => exact absurd rfl hne
            | cons c r =>
              refine ⟨c, r, rfl, ?_, ?_, ?_, ?_⟩
              · have h5 := (g4 [] c r rfl).1
                cases hb : blk c with
                | false => rfl
                | true =>
                  have hc : c = 32 ∨ c = 9 := by simpa [blk, blkS] using hb
                  rcases hc with rfl | rfl <;> simp [stopP, endS] at h5
              · rintro rfl
                exact over_hash _ hov
              · rintro rfl
                exact h1 rfl
              · rintro rfl
                exact h2 rfl
      · cases h
    · cases h
  · cases h
end Go.Proofs.YtlihkblllakhmaaGreatDoor
