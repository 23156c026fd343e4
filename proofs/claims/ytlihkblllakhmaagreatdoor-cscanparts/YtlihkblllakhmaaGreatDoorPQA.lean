/- A text between braces, read alone and among others, plainly. -/
import Derived.Test.YtlihkblllakhmaaGreatDoorQu8
import Derived.Test.YtlihkblllakhmaaGreatDoorPlain
/-! What Quote makes of a text is read as that text, plainly. -/
namespace Go.Proofs.YtlihkblllakhmaaGreatDoor

/-! ### a plain text -/
/-- Each byte of a text stands for itself, whatever parts words behind it. -/
def plainT : List UInt8 → Bool
  | [] => true
  | c :: r => !stopP endS (c :: (r ++ [32])) && c != 92 && plainT r
theorem stop_more (c : UInt8) (r : List UInt8) (u v : List UInt8) (hu : ∀ d t, u = d :: t → endS.contains d = true) (hv : ∀ d t, v = d :: t → endS.contains d = true) : stopP endS (c :: (r ++ u)) = stopP endS (c :: (r ++ v)) := by
  have key : ∀ w : List UInt8, (∀ d t, w = d :: t → endS.contains d = true) → dolB (c :: w) = false := by
    intro w hw
    cases w with
    | nil => rfl
    | cons d t =>
      have h := hw d t rfl
      have hd : d = 32 ∨ d = 9 ∨ d = 10 ∨ d = 59 := by simpa [endS] using h
      rcases hd with rfl | rfl | rfl | rfl <;> (simp only [dolB]; rw [show dolC _ = false from by decide]; simp)
  cases r with
  | nil =>
    simp only [List.nil_append, stopP]
    rw [key u hu, key v hv]
  | cons d r => simp only [List.cons_append, stopP, dolB]
theorem plain_read (u : List UInt8) (hu : ∀ d t, u = d :: t → endS.contains d = true) : ∀ (l : List UInt8) (f : Nat), l.length ≤ f → plainT l = true → plainL endS f (l ++ u) = (l, u)
  | [], f, _, _ => by
    refine plain_stop endS f u ?_
    cases u with
    | nil => rfl
    | cons d t =>
      have := hu d t rfl
      simp only [stopP]
      rw [this]
      rfl
  | c :: r, 0, h, _ => absurd h (by simp)
  | c :: r, f + 1, h, hp => by
    simp only [plainT, Bool.and_eq_true, Bool.not_eq_true', bne_iff_ne, ne_eq] at hp
    obtain ⟨⟨h1, h2⟩, h3⟩ := hp
    have hs : stopP endS (c :: (r ++ u)) = false := by
      rw [stop_more c r u [32] hu (fun d t e => by cases e; decide)]
      exact h1
    have hb : pByte (c :: (r ++ u)) = (c, 1) := by simp [pByte, h2]
    rw [List.cons_append, plain_more endS f _ hs, hb]
    have ih := plain_read u hu r f (by simpa using h) h3
    simp only [List.drop_succ_cons, List.drop_zero, ih]
/-- A plain part that takes as many bytes as it says is plain. -/
theorem plain_eq (e : List UInt8) : ∀ (f : Nat) (L x u : List UInt8), L.length ≤ f → plainL e f L = (x, u) → x.length + u.length = L.length → L = x ++ u ∧ (∀ a c b, x = a ++ c :: b → stopP e (c :: (b ++ u)) = false ∧ (c ≠ 92 ∨ b ++ u = []))
  | 0, L, x, u, hf, h, _ => by
    obtain rfl : L = [] := List.eq_nil_of_length_eq_zero (by omega)
    cases h
    exact ⟨rfl, fun a c b e' => by simp at e'⟩
  | f + 1, L, x, u, hf, h, hl => by
    cases hs : stopP e L with
    | true =>
      rw [plain_stop e (f + 1) L hs] at h
      cases h
      exact ⟨rfl, fun a c b e' => by simp at e'⟩
    | false =>
      rw [plain_more e f L hs] at h
      injection h with h1 h2
      match L, hs, hf, h1, h2, hl with
      | [], hs, _, _, _, _ => cases hs
      | c :: r, hs, hf, h1, h2, hl =>
        by_cases hc : c = 92
        · subst hc
          have hle := plain_le e f ((92 :: r).drop (pByte (92 :: r)).2)
          rw [← h1, List.length_cons, ← h2, List.length_cons] at hl
          cases r with
          | nil =>
            have hd : plainL e f [] = ([], []) := plain_stop e f [] rfl
            simp only [pByte, if_true, List.drop_succ_cons, List.drop_zero, hd] at h1 h2
            subst h1 h2
            refine ⟨rfl, fun a c b e' => ?_⟩
            cases a with
            | nil =>
              simp at e'
              obtain ⟨rfl, rfl⟩ := e'
              exact ⟨hs, .inr rfl⟩
            | cons a0 a => simp at e'
          | cons d r =>
            exfalso
            simp [pByte] at hl hle
            omega
        · have hb : pByte (c :: r) = (c, 1) := by simp [pByte, hc]
          rw [hb] at h1 h2
          simp only [List.drop_succ_cons, List.drop_zero] at h1 h2
          have hx : x = c :: (plainL e f r).1 := h1.symm
          have ih := plain_eq e f r (plainL e f r).1 u (by simpa using hf) (by rw [← h2]) (by rw [hx] at hl; simp at hl; omega)
          refine ⟨by rw [hx, List.cons_append, ← ih.1], ?_⟩
          intro a c' b e'
          rw [hx] at e'
          cases a with
          | nil =>
            simp at e'
            obtain ⟨rfl, rfl⟩ := e'
            rw [← ih.1]
            exact ⟨hs, .inl hc⟩
          | cons a0 a =>
            simp at e'
            exact ih.2 a c' b e'.2
/-- A plain part that takes the last blank has a backslash ahead of it. -/
theorem plain_end (e : List UInt8) (he : e.contains 32 = true) : ∀ (f : Nat) (L x : List UInt8), (L ++ [32]).length ≤ f → plainL e f (L ++ [32]) = (x, []) → ∃ L0 x0, L = L0 ++ [92] ∧ x = x0 ++ [32]
  | 0, L, x, hf, _ => absurd hf (by simp)
  | f + 1, [], x, _, h => by
    rw [List.nil_append, plain_stop e (f + 1) [32] (by simp only [stopP]; rw [he]; rfl)] at h
    cases h
  | f + 1, c :: r, x, hf, h => by
    cases hs : stopP e (c :: r ++ [32]) with
    | true =>
      rw [plain_stop e (f + 1) _ hs] at h
      cases h
    | false =>
      rw [plain_more e f _ hs] at h
      injection h with h1 h2
      by_cases hc : c = 92
      · subst hc
        cases r with
        | nil =>
          have hd : plainL e f [] = ([], []) := plain_stop e f [] rfl
          have hb : pByte ([92] ++ [32]) = (32, 2) := by simp [pByte, escC]
          rw [hb] at h1
          simp only [List.cons_append, List.nil_append, List.drop_succ_cons, List.drop_zero, hd] at h1
          exact ⟨[], [], rfl, h1.symm⟩
        | cons d r =>
          have hb : pByte (92 :: d :: r ++ [32]) = (escC d, 2) := by simp [pByte]
          rw [hb] at h1 h2
          simp only [List.cons_append, List.drop_succ_cons, List.drop_zero] at h1 h2
          obtain ⟨L0, x0, e1, e2⟩ := plain_end e he f r (plainL e f (r ++ [32])).1 (by simp at hf ⊢; omega) (Prod.ext rfl h2)
          exact ⟨92 :: d :: L0, escC d :: x0, by rw [e1]; rfl, by rw [← h1, e2]; rfl⟩
      · have hb : pByte (c :: r ++ [32]) = (c, 1) := by simp [pByte, hc]
        rw [hb] at h1 h2
        simp only [List.cons_append, List.drop_succ_cons, List.drop_zero] at h1 h2
        obtain ⟨L0, x0, e1, e2⟩ := plain_end e he f r (plainL e f (r ++ [32])).1 (by simp at hf ⊢; omega) (Prod.ext rfl h2)
        exact ⟨c :: L0, c :: x0, by rw [e1]; rfl, by rw [← h1, e2]; rfl⟩
theorem dollar_kind {N : Nat} {l : List UInt8} {p : Pt} {u : List UInt8} (h : dollar N l = .ok (p, u)) : p.kind ≠ 1 := by
  match l, h with
  | [], h => cases h
  | [_], h => cases h
  | a :: c :: t, h =>
    rw [dollar] at h
    split at h
    · cases h; simp
    · split at h
      · cases h; simp
      · split at h
        · cases h
        · cases h; simp
/-- The only part, where it is a text. -/
theorem parts_one {N f : Nat} {e L v : List UInt8} {p : Pt} (h : partsL N e f L = .ok ([p], v)) (hk : p.kind = 1) : plainL e L.length L = (p.s, v) := by
  match f, L, h with
  | 0, L, h => cases h
  | f + 1, [], h => cases h
  | f + 1, c :: t, h =>
    rw [partsL] at h
    split at h
    · cases h
    · cases hp : partL N e (c :: t) with
      | error x => rw [hp] at h; cases h
      | ok q =>
        rw [hp] at h
        simp only at h
        cases hq : partsL N e f q.2 with
        | error x => rw [hq] at h; cases h
        | ok r =>
          rw [hq] at h
          simp only [Except.ok.injEq, Prod.mk.injEq, List.cons.injEq] at h
          obtain ⟨⟨h1, h2⟩, h3⟩ := h
          have hv : r.2 = q.2 := by
            match f, q.2, hq with
            | 0, l, hq => cases hq; rfl
            | f + 1, [], hq => cases hq; rfl
            | f + 1, d :: t', hq =>
              rw [partsL] at hq
              split at hq
              · cases hq; rfl
              · cases hp' : partL N e (d :: t') with
                | error x => rw [hp'] at hq; cases hq
                | ok q' =>
                  rw [hp'] at hq
                  simp only at hq
                  cases hq' : partsL N e f q'.2 with
                  | error x => rw [hq'] at hq; cases hq
                  | ok r' =>
                    rw [hq'] at hq
                    simp only [Except.ok.injEq] at hq
                    rw [← hq] at h2
                    cases h2
          rw [partL] at hp
          split at hp
          · cases hk' : passK 0 0 (c :: t).tail with
            | none => rw [hk'] at hp; cases hp
            | some u' =>
              rw [hk'] at hp
              simp only [Except.ok.injEq] at hp
              rw [← h1, ← hp] at hk
              cases hk
          · split at hp
            · exact absurd (h1 ▸ hk) (dollar_kind hp)
            · simp only [Except.ok.injEq] at hp
              rw [← h1, ← h3, hv, ← hp]
/-- How much of a source a word's text takes. -/
theorem word_text {N : Nat} {P u x : List UInt8} {w : Wd} (h : wordL N P = .ok (w, u)) (hx : textL w = some x) : x.length + u.length + 2 ≤ P.length ∨ (P.head? ≠ some 123 ∧ P.head? ≠ some 34 ∧ plainL endS P.length P = (x, u)) := by
  rw [wordL] at h
  split at h
  · rename_i h123
    left
    cases hb : passB 0 P.tail with
    | none => rw [hb] at h; cases h
    | some v =>
      rw [hb] at h
      simp only at h
      obtain rfl := closed_ok h
      have hw : w = ⟨N - P.length, true, [⟨1, N - P.length + 1, 0, P.tail.take (P.tail.length - u.length - 1)⟩]⟩ := by
        unfold closedL at h
        cases u with
        | nil => cases h; rfl
        | cons c t =>
          simp only at h
          split at h
          · cases h; rfl
          · cases h
      rw [hw] at hx
      simp [textL] at hx
      have hlt := passB_lt _ _ _ _ (Nat.le_refl _) hb
      have hlx := congrArg List.length hx
      rw [List.length_take, List.length_tail] at hlx
      rw [List.length_tail] at hlt
      omega
  · split at h
    · rename_i h123 h34
      left
      have hne : P ≠ [] := fun e => by rw [e] at h34; cases h34
      cases hp : partsL N [34] P.length P.tail with
      | error y => rw [hp] at h; cases h
      | ok q =>
        rw [hp] at h
        obtain ⟨ps, v⟩ := q
        cases v with
        | nil => cases h
        | cons c v =>
          simp only at h
          obtain rfl := closed_ok h
          have hle := parts_le _ _ _ _ _ _ hp
          have hl1 : P.length = P.tail.length + 1 := by
            cases P with
            | nil => exact absurd rfl hne
            | cons a b => rfl
          have hw : w = ⟨N - P.length, false, if ps.isEmpty then [⟨1, N - P.length, 0, []⟩] else ps⟩ := by
            unfold closedL at h
            cases u with
            | nil => cases h; rfl
            | cons c t =>
              simp only at h
              split at h
              · cases h; rfl
              · cases h
          rw [hw] at hx
          cases ps with
          | nil =>
            simp [textL] at hx
            subst hx
            simp at hle ⊢
            omega
          | cons p ps =>
            cases ps with
            | cons p' ps => simp [textL] at hx
            | nil =>
              simp [textL] at hx
              have hpl := parts_one hp hx.1
              have hcnt := plain_le [34] P.tail.length P.tail
              rw [hpl, hx.2] at hcnt
              simp at hcnt ⊢
              omega
    · rename_i h123 h34
      right
      refine ⟨h123, h34, ?_⟩
      cases hp : partsL N endS P.length P with
      | error y => rw [hp] at h; cases h
      | ok q =>
        rw [hp] at h
        simp only [Except.ok.injEq, Prod.mk.injEq] at h
        obtain ⟨rfl, rfl⟩ := h
        obtain ⟨ps, v⟩ := q
        match ps, hx, hp with
        | [], hx, hp => simp [textL] at hx
        | [p], hx, hp =>
          simp [textL] at hx
          rw [parts_one hp hx.1, hx.2]
        | _ :: _ :: _, hx, hp => simp [textL] at hx
theorem over_suffix (l : List UInt8) : ∃ a, l = a ++ over l := by
  unfold over overC
  obtain ⟨a, ha⟩ := List.dropWhile_suffix (l := l) blk
  split
  · obtain ⟨b, hb⟩ := List.dropWhile_suffix (l := l.dropWhile blk) notNl
    exact ⟨a ++ b, by rw [List.append_assoc, hb, ha]⟩
  · exact ⟨a, ha.symm⟩
theorem words_empty {N f : Nat} {L v : List UInt8} (h : wordsL N f L = .ok ([], v)) : v = L := by
  match f, L, h with
  | 0, L, h => cases h; rfl
  | f + 1, [], h => cases h; rfl
  | f + 1, c :: t, h =>
    rw [wordsL] at h
    split at h
    · cases h; rfl
    · cases hp : wordL N (c :: t) with
      | error x => rw [hp] at h; cases h
      | ok q =>
        rw [hp] at h
        simp only at h
        cases hq : wordsL N f (q.2.dropWhile blk) with
        | error x => rw [hq] at h; cases h
        | ok r => rw [hq] at h; cases h
theorem words_first {N f : Nat} {L v : List UInt8} {w : Wd} {ws : List Wd} (h : wordsL N f L = .ok (w :: ws, v)) : L ≠ [] ∧ ∃ u, wordL N L = .ok (w, u) := by
  match f, L, h with
  | 0, L, h => cases h
  | f + 1, [], h => cases h
  | f + 1, c :: t, h =>
    rw [wordsL] at h
    split at h
    · cases h
    · cases hp : wordL N (c :: t) with
      | error x => rw [hp] at h; cases h
      | ok q =>
        rw [hp] at h
        simp only at h
        cases hq : wordsL N f (q.2.dropWhile blk) with
        | error x => rw [hq] at h; cases h
        | ok r =>
          rw [hq] at h
          simp only [Except.ok.injEq, Prod.mk.injEq, List.cons.injEq] at h
          exact ⟨by simp, q.2, by rw [← h.1.1]⟩
/-- Where the first word of the only command is read. -/
theorem scan_only (N : Nat) (m : Cm) (w : Wd) (ws : List Wd) (hm : m.words = w :: ws) : ∀ (f : Nat) (S : List UInt8), scanW (commandL N) f S = .ok [m] → ∃ S0 P u, S = S0 ++ P ∧ P ≠ [] ∧ wordL N P = .ok (w, u) ∧ (S0 = [] → over S = S)
  | 0, S, h => by cases h
  | f + 1, [], h => by cases h
  | f + 1, c :: t, h => by
    rw [scanW] at h
    cases hc : commandL N (c :: t) with
    | error x => rw [hc] at h; cases h
    | ok q =>
      rw [hc] at h
      simp only at h
      cases hr : scanW (commandL N) f q.2 with
      | error x => rw [hr] at h; cases h
      | ok ms =>
        rw [hr] at h
        simp only [Except.ok.injEq] at h
        unfold commandL at hc
        cases hw : wordsL N (over (c :: t)).length (over (c :: t)) with
        | error x => rw [hw] at hc; cases hc
        | ok r =>
          rw [hw] at hc
          simp only [Except.ok.injEq] at hc
          obtain ⟨a, ha⟩ := over_suffix (c :: t)
          split at h
          · rename_i he
            rw [← hc] at he
            simp only [List.isEmpty_iff] at he
            have hv := words_empty (v := r.2) (by rw [hw, ← he])
            rw [h] at hr
            obtain ⟨S0, P, u, e1, e2, e3, _⟩ := scan_only N m w ws hm f q.2 hr
            rw [← hc] at e1
            simp only at e1
            rw [hv] at e1
            cases ho : over (c :: t) with
            | nil =>
              rw [ho] at e1
              simp at e1
              exact absurd e1.2 e2
            | cons d o =>
              rw [ho] at e1 ha
              simp only [List.tail_cons] at e1
              refine ⟨a ++ (d :: S0), P, u, by rw [ha, e1]; simp, e2, e3, fun e => by simp at e⟩
          · simp only [List.cons.injEq] at h
            rw [← h.1, ← hc] at hm
            simp only at hm
            obtain ⟨h1, u, h2⟩ := words_first (v := r.2) (by rw [hw, ← hm])
            exact ⟨a, over (c :: t), u, ha, h1, h2, fun e => by rw [e] at ha; exact ha.symm⟩
theorem plainT_of : ∀ (l : List UInt8), (∀ a c b, l = a ++ c :: b → stopP endS (c :: (b ++ [32])) = false ∧ (c ≠ 92 ∨ b ++ [32] = [])) → plainT l = true
  | [], _ => rfl
  | c :: r, h => by
    obtain ⟨h1, h2⟩ := h [] c r rfl
    have h3 : c ≠ 92 := by
      rcases h2 with e | e
      · exact e
      · simp at e
    simp [plainT, h1, h3, plainT_of r fun a d b e => h (c :: a) d b (by rw [e]; rfl)]
theorem over_hash (r : List UInt8) : over (35 :: r) ≠ 35 :: r := by
  intro h
  have hb : blk 35 = false := by decide
  have hn : notNl 35 = true := by decide
  rw [over, List.dropWhile_cons, hb] at h
  simp only [Bool.false_eq_true, if_false, overC, List.head?_cons, if_true] at h
  rw [List.dropWhile_cons, hn] at h
  simp only [if_true] at h
  have h1 : (r.dropWhile notNl).length ≤ r.length := (List.dropWhile_sublist _).length_le
  rw [h] at h1
  simp only [List.length_cons] at h1
  omega
/-- A text that reads is as it is: each of its bytes stands for itself. -/
theorem reads_plain (l : List UInt8) (h : readsB (l ++ [32]) l = true) : plainT l = true ∧ ∃ c r, l = c :: r ∧ blk c = false ∧ c ≠ 35 ∧ c ≠ 123 ∧ c ≠ 34 := by
  unfold readsB at h
  split at h
  · rename_i hs8
    simp only [beq_iff_eq] at h
    unfold oneW at h
    split at h
    · rename_i m hsc
      split at h
      · rename_i w hm
        obtain ⟨S0, P, u, e1, e2, e3, e4⟩ := scan_only _ m w [] hm _ _ hsc
        have hP : ∃ P', P = P' ++ [32] := by
          have hlast := congrArg List.getLast? e1
          rw [List.getLast?_concat, List.getLast?_append] at hlast
          cases hp : P.getLast? with
          | none => exact absurd (List.getLast?_eq_none_iff.1 hp) e2
          | some z =>
            rw [hp] at hlast
            simp at hlast
            rw [← hlast] at hp
            obtain ⟨P', hP'⟩ := List.getLast?_eq_some_iff.1 hp
            exact ⟨P', hP'⟩
        obtain ⟨P', rfl⟩ := hP
        have hlen := congrArg List.length e1
        simp at hlen
        rcases word_text e3 h with hk | ⟨h1, h2, h3⟩
        · simp at hk
          omega
        · have hcnt := plain_le endS (P' ++ [32]).length (P' ++ [32])
          rw [h3] at hcnt
          simp at hcnt
          have hu : u = [] ∨ u ≠ [] := by
            cases u with
            | nil => exact .inl rfl
            | cons a b => exact .inr (by simp)
          rcases hu with rfl | hu
          · exfalso
            obtain ⟨L0, x0, g1, g2⟩ := plain_end endS (by decide) _ P' l (Nat.le_refl _) h3
            by_cases h0 : S0 = []
            · subst h0
              have : P' = l := by simpa using e1.symm
              rw [this, g2] at g1
              have := congrArg List.getLast? g1
              simp at this
            · have hS0 : 1 ≤ S0.length := by
                cases S0 with
                | nil => exact absurd rfl h0
                | cons a b => simp
              obtain ⟨g3, g4⟩ := plain_eq endS _ _ _ _ (Nat.le_refl _) h3 (by simp; simp at hcnt; omega)
              rw [List.append_nil] at g3
              have := g4 P' 32 [] g3.symm
              simp [stopP, endS] at this
          · have hu1 : 1 ≤ u.length := by
              cases u with
              | nil => exact absurd rfl hu
              | cons a b => simp
            have hS0 : S0 = [] := List.eq_nil_of_length_eq_zero (by omega)
            subst hS0
            have : P' = l := by simpa using e1.symm
            subst this
            obtain ⟨g3, g4⟩ := plain_eq endS _ _ _ _ (Nat.le_refl _) h3 (by simp; omega)
            have hu32 : u = [32] := (List.append_cancel_left g3).symm
            subst hu32
            have hov := e4 rfl
            have hne : P' ≠ [] := by
              rintro rfl
              exact absurd hov (by decide)
            have hpt := plainT_of P' g4
            refine ⟨hpt, ?_⟩
            cases P' with
            | nil => exact absurd rfl hne
            | cons c r =>
              refine ⟨c, r, rfl, ?_, ?_, ?_, ?_⟩
              · have h5 := (g4 [] c r rfl).1
                cases hb : blk c with
                | false => rfl
                | true =>
                  have hc : c = 32 ∨ c = 9 := by simpa [blk, blkS] using hb
                  rcases hc with rfl | rfl <;> simp [stopP, endS] at h5
              · rintro rfl
                exact over_hash _ hov
              · rintro rfl
                exact h1 rfl
              · rintro rfl
                exact h2 rfl
      · cases h
    · cases h
  · cases h
end Go.Proofs.YtlihkblllakhmaaGreatDoor
/-! Braces in braces, brackets in brackets, plainly. -/
namespace Go.Proofs.YtlihkblllakhmaaGreatDoor

theorem passBx_open (n : Nat) (t : List UInt8) : passB n (123 :: t) = passB (n + 1) t := by
  cases t <;> simp [passB]
theorem passBx_shut (n : Nat) (t : List UInt8) : passB (n + 1) (125 :: t) = passB n t := by
  cases t <;> simp [passB]
theorem passBx_shut0 (t : List UInt8) : passB 0 (125 :: t) = some t := by
  cases t <;> simp [passB]
theorem passBx_other (n : Nat) (c : UInt8) (t : List UInt8) (h1 : c ≠ 92) (h2 : c ≠ 123) (h3 : c ≠ 125) : passB n (c :: t) = passB n t := by
  cases t <;> simp [passB, h1, h2, h3]
theorem passKx_open (n : Nat) (t : List UInt8) : passK n 0 (91 :: t) = passK (n + 1) 0 t := by
  cases t <;> simp [passK]
theorem passKx_shut (n : Nat) (t : List UInt8) : passK (n + 1) 0 (93 :: t) = passK n 0 t := by
  cases t <;> simp [passK]
theorem passKx_shut0 (t : List UInt8) : passK 0 0 (93 :: t) = some t := by
  cases t <;> simp [passK]
theorem passKx_other (n : Nat) (c : UInt8) (t : List UInt8) (h1 : c ≠ 92) (h2 : c ≠ 123) (h3 : c ≠ 125) (h4 : c ≠ 91) (h5 : c ≠ 93) : passK n 0 (c :: t) = passK n 0 t := by
  cases t <;> simp [passK, h1, h2, h3, h4, h5]
/-- None of these is a brace, a bracket, a backslash. -/
def tame (c : UInt8) : Bool := c != 123 && (c != 125 && (c != 91 && (c != 93 && c != 92)))
theorem tame_iff (c : UInt8) : tame c = true ↔ c ≠ 123 ∧ c ≠ 125 ∧ c ≠ 91 ∧ c ≠ 93 ∧ c ≠ 92 := by simp [tame]
theorem passBx_tame (n : Nat) : ∀ (s t : List UInt8), s.all tame = true → passB n (s ++ t) = passB n t
  | [], _, _ => rfl
  | c :: s, t, h => by
    simp only [List.all_cons, Bool.and_eq_true] at h
    obtain ⟨h1, h2, h3, h4, h5⟩ := (tame_iff c).1 h.1
    rw [List.cons_append, passBx_other n c _ h5 h1 h2, passBx_tame n s t h.2]
theorem passKx_tame (n : Nat) : ∀ (s t : List UInt8), s.all tame = true → passK n 0 (s ++ t) = passK n 0 t
  | [], _, _ => rfl
  | c :: s, t, h => by
    simp only [List.all_cons, Bool.and_eq_true] at h
    obtain ⟨h1, h2, h3, h4, h5⟩ := (tame_iff c).1 h.1
    rw [List.cons_append, passKx_other n c _ h5 h1 h2 h3 h4, passKx_tame n s t h.2]
theorem passBx_opens (t : List UInt8) : ∀ (k n : Nat), passB n (List.replicate k 123 ++ t) = passB (n + k) t
  | 0, _ => rfl
  | k + 1, n => by rw [List.replicate_succ, List.cons_append, passBx_open, passBx_opens t k (n + 1), Nat.add_assoc, Nat.add_comm 1 k]
theorem passBx_shuts (t : List UInt8) : ∀ (k n : Nat), passB (n + k) (List.replicate k 125 ++ t) = passB n t
  | 0, _ => rfl
  | k + 1, n => by rw [List.replicate_succ, List.cons_append, ← Nat.add_assoc, passBx_shut, passBx_shuts t k n]
theorem passKx_opens (t : List UInt8) : ∀ (k n : Nat), passK n 0 (List.replicate k 91 ++ t) = passK (n + k) 0 t
  | 0, _ => rfl
  | k + 1, n => by rw [List.replicate_succ, List.cons_append, passKx_open, passKx_opens t k (n + 1), Nat.add_assoc, Nat.add_comm 1 k]
theorem passKx_shuts (t : List UInt8) : ∀ (k n : Nat), passK (n + k) 0 (List.replicate k 93 ++ t) = passK n 0 t
  | 0, _ => rfl
  | k + 1, n => by rw [List.replicate_succ, List.cons_append, ← Nat.add_assoc, passKx_shut, passKx_shuts t k n]
/-- What stands within. -/
def inB (k : Nat) (s : List UInt8) : List UInt8 := List.replicate k 123 ++ (s ++ List.replicate k 125)
def inK (k : Nat) (s : List UInt8) : List UInt8 := List.replicate k 91 ++ (s ++ List.replicate k 93)
theorem passBx_in (k : Nat) (s t : List UInt8) (h : s.all tame = true) : passB 0 (inB k s ++ t) = passB 0 t := by
  rw [inB, List.append_assoc, List.append_assoc, passBx_opens, passBx_tame _ _ _ h, passBx_shuts]
theorem passKx_in (k : Nat) (s t : List UInt8) (h : s.all tame = true) : passK 0 0 (inK k s ++ t) = passK 0 0 t := by
  rw [inK, List.append_assoc, List.append_assoc, passKx_opens, passKx_tame _ _ _ h, passKx_shuts]
theorem take_in (l : List UInt8) (c : UInt8) : (l ++ [c]).take ((l ++ [c]).length - ([] : List UInt8).length - 1) = l := by simp
theorem words_doneB (N f : Nat) : wordsL N f [] = .ok ([], []) := by cases f <;> rfl
theorem parts_doneB (N f : Nat) (e : List UInt8) : partsL N e f [] = .ok ([], []) := by cases f <;> rfl
theorem scan_doneB (T : List UInt8 → Except Er (Cm × List UInt8)) (f : Nat) : scanW T f [] = .ok [] := by cases f <;> rfl
/-- A source that is one word. -/
theorem scan_word (c : UInt8) (t : List UInt8) (w : Wd) (h1 : blk c = false) (h2 : c ≠ 35) (h3 : sepS.contains c = false) (hw : wordL (t.length + 1) (c :: t) = .ok (w, [])) : scanL (c :: t) = .ok [⟨0, [w]⟩] := by
  have ho : over (c :: t) = c :: t := by
    rw [over, overC, List.dropWhile_cons, h1]
    simp [h2]
  have hws : wordsL (t.length + 1) (t.length + 1) (c :: t) = .ok ([w], []) := by
    rw [wordsL, h3, if_neg (by simp), hw]
    simp only [List.dropWhile_nil, words_doneB]
  rw [scanL, List.length_cons, scanW, commandL, ho, List.length_cons, hws]
  simp only [List.tail_nil, scan_doneB, Nat.sub_self, List.isEmpty_cons, Bool.false_eq_true, if_false]
/-- A source whose first word is none. -/
theorem scan_bad (c : UInt8) (t : List UInt8) (x : Er) (h1 : blk c = false) (h2 : c ≠ 35) (h3 : sepS.contains c = false) (hw : wordL (t.length + 1) (c :: t) = .error x) : scanL (c :: t) = .error x := by
  have ho : over (c :: t) = c :: t := by
    rw [over, overC, List.dropWhile_cons, h1]
    simp [h2]
  have hws : wordsL (t.length + 1) (t.length + 1) (c :: t) = .error x := by rw [wordsL, h3, if_neg (by simp), hw]
  rw [scanL, List.length_cons, scanW, commandL, ho, List.length_cons, hws]
theorem scan_braces (k : Nat) (s : List UInt8) (h : s.all tame = true) : scanL (123 :: (inB k s ++ [125])) = .ok [⟨0, [⟨0, true, [⟨1, 1, 0, inB k s⟩]⟩]⟩] := by
  refine scan_word _ _ _ (by decide) (by decide) (by decide) ?_
  rw [wordL, if_pos (by rfl), List.tail_cons, passBx_in k s [125] h, passBx_shut0]
  simp only [closedL, take_in, List.length_cons, Nat.sub_self, Nat.zero_add]
theorem scan_brackets (k : Nat) (s : List UInt8) (h : s.all tame = true) : scanL (91 :: (inK k s ++ [93])) = .ok [⟨0, [⟨0, false, [⟨3, 0, 0, inK k s⟩]⟩]⟩] := by
  refine scan_word _ _ _ (by decide) (by decide) (by decide) ?_
  rw [wordL, if_neg (by simp), if_neg (by simp), List.length_cons, partsL, if_neg (by decide), partL, if_pos (by rfl), List.tail_cons, passKx_in k s [93] h, passKx_shut0]
  simp only [take_in, List.length_cons, Nat.sub_self, parts_doneB]
theorem scan_open (k : Nat) (s : List UInt8) (h : s.all tame = true) : scanL (123 :: inB k s) = .error ⟨4, 0⟩ := by
  refine scan_bad _ _ _ (by decide) (by decide) (by decide) ?_
  have e := passBx_in k s [] h
  rw [List.append_nil] at e
  rw [wordL, if_pos (by rfl), List.tail_cons, e]
  simp [passB]
theorem scan_into (k : Nat) (s : List UInt8) (h : s.all tame = true) : scanL (120 :: 32 :: 91 :: inK k s) = .error ⟨1, 2⟩ := by
  have e := passKx_in k s [] h
  rw [List.append_nil] at e
  obtain ⟨L, hL⟩ : ∃ L, L = inK k s := ⟨_, rfl⟩
  rw [← hL] at e ⊢
  have ho : over (120 :: 32 :: 91 :: L) = 120 :: 32 :: 91 :: L := by
    have hb : blk 120 = false := by decide
    rw [over, overC, List.dropWhile_cons, hb]
    simp
  have hw1 : wordL (L.length + 3) (120 :: 32 :: 91 :: L) = .ok (⟨0, false, [⟨1, 0, 0, [120]⟩]⟩, 32 :: 91 :: L) := by
    have hp : partL (L.length + 3) endS (120 :: 32 :: 91 :: L) = .ok (⟨1, 0, 0, [120]⟩, 32 :: 91 :: L) := by
      rw [partL, if_neg (by simp), if_neg (by simp [dolB])]
      have hs1 : stopP endS (120 :: 32 :: 91 :: L) = false := by simp [stopP, endS, dolB]
      have hs2 : stopP endS (32 :: 91 :: L) = true := by simp [stopP, endS]
      have hpl : plainL endS (120 :: 32 :: 91 :: L).length (120 :: 32 :: 91 :: L) = ([120], 32 :: 91 :: L) := by
        rw [List.length_cons, plainL, hs1, List.length_cons, plainL]
        simp [pByte, hs2]
      rw [hpl]
      simp
    rw [wordL, if_neg (by simp), if_neg (by simp), List.length_cons, partsL, if_neg (by decide), hp]
    simp only
    rw [show (32 :: 91 :: L).length = (91 :: L).length + 1 from rfl, partsL, if_pos (by decide)]
    simp
  have hw2 : wordL (L.length + 3) (91 :: L) = .error ⟨1, 2⟩ := by
    rw [wordL, if_neg (by simp), if_neg (by simp), List.length_cons, partsL, if_neg (by decide), partL, if_pos (by rfl), List.tail_cons, e]
    simp [passK]
  have hws : wordsL (L.length + 3) (L.length + 3) (120 :: 32 :: 91 :: L) = .error ⟨1, 2⟩ := by
    rw [wordsL, if_neg (by decide), hw1]
    simp only
    rw [show (32 :: 91 :: L).dropWhile blk = 91 :: L from by rw [List.dropWhile_cons, if_pos (by decide), List.dropWhile_cons, if_neg (by decide)], wordsL, if_neg (by decide), hw2]
  rw [scanL, show (120 :: 32 :: 91 :: L).length = L.length + 2 + 1 from rfl, scanW, commandL, ho, show (120 :: 32 :: 91 :: L).length = L.length + 3 from rfl, hws]
end Go.Proofs.YtlihkblllakhmaaGreatDoor
/-! A quoted word, read alone and among others, plainly. -/
namespace Go.Proofs.YtlihkblllakhmaaGreatDoor

/-- What parts words stands here, or nothing. -/
def Ends (u : List UInt8) : Prop := ∀ d t, u = d :: t → endS.contains d = true
theorem Ends.nil : Ends [] := fun _ _ e => by cases e
theorem Ends.cons {c : UInt8} {t : List UInt8} (h : endS.contains c = true) : Ends (c :: t) := fun d t' e => by cases e; exact h
theorem parts_end (N f : Nat) (e u : List UInt8) (h : ∀ d t, u = d :: t → e.contains d = true) : partsL N e f u = .ok ([], u) := by
  match f, u, h with
  | 0, u, _ => rfl
  | f + 1, [], _ => rfl
  | f + 1, c :: t, h => rw [partsL, if_pos (h c t rfl)]
theorem bare_word (N : Nat) (c : UInt8) (r u : List UInt8) (hp : plainT (c :: r) = true) (h1 : c ≠ 123) (h2 : c ≠ 34) (hu : Ends u) : wordL N (c :: (r ++ u)) = .ok (⟨N - (c :: (r ++ u)).length, false, [⟨1, N - (c :: (r ++ u)).length, 0, c :: r⟩]⟩, u) := by
  have hst : stopP endS (c :: (r ++ u)) = false := by
    have hp' := hp
    simp only [plainT, Bool.and_eq_true, Bool.not_eq_true', bne_iff_ne, ne_eq] at hp'
    rw [stop_more c r u [32] hu (fun d t e => by cases e; decide)]
    exact hp'.1.1
  have hst' := hst
  simp only [stopP, Bool.or_eq_false_iff, beq_eq_false_iff_ne, ne_eq] at hst'
  obtain ⟨⟨h3, h4⟩, h5⟩ := hst'
  have hpl := plain_read u hu (c :: r) (c :: (r ++ u)).length (by simp) hp
  rw [List.cons_append] at hpl
  rw [wordL, if_neg (by simp [h1]), if_neg (by simp [h2]), List.length_cons, partsL, h3, if_neg (by simp), partL, if_neg (by simp [h4]), h5, if_neg (by simp), hpl]
  simp only
  rw [parts_end N _ endS u hu]
  rfl
theorem esc_read (u : List UInt8) : ∀ (l : List UInt8) (f : Nat), (escP l).length ≤ f → plainL [34] f (escP l ++ 34 :: u) = (l, 34 :: u)
  | [], f, _ => plain_stop _ _ _ (by simp [escP, stopP])
  | c :: l, f, h => by
    rw [escP_cons, escB] at h ⊢
    cases hc : isE c with
    | true =>
      rw [hc] at h
      simp only [if_true, List.cons_append, List.nil_append, List.length_cons] at h ⊢
      obtain ⟨f, rfl⟩ : ∃ g, f = g + 1 := ⟨f - 1, by omega⟩
      have hs : stopP [34] (92 :: c :: (escP l ++ 34 :: u)) = false := by simp [stopP, dolB]
      have he : escC c = c := by
        have : c = 34 ∨ c = 92 ∨ c = 36 ∨ c = 91 := by simpa [isE, esc4] using hc
        rcases this with rfl | rfl | rfl | rfl <;> decide
      rw [plain_more [34] f _ hs]
      simp only [pByte, if_true, List.drop_succ_cons, List.drop_zero, he, esc_read u l f (by omega)]
    | false =>
      rw [hc] at h
      simp only [Bool.false_eq_true, if_false, List.cons_append, List.nil_append, List.length_cons] at h ⊢
      obtain ⟨f, rfl⟩ : ∃ g, f = g + 1 := ⟨f - 1, by omega⟩
      have hn : c ≠ 34 ∧ c ≠ 92 ∧ c ≠ 36 ∧ c ≠ 91 := by
        refine ⟨?_, ?_, ?_, ?_⟩ <;> (rintro rfl; revert hc; decide)
      obtain ⟨n1, n2, n3, n4⟩ := hn
      have hd : dolB (c :: (escP l ++ 34 :: u)) = false := by
        cases escP l ++ 34 :: u with
        | nil => rfl
        | cons a b => simp [dolB, n3]
      have hs : stopP [34] (c :: (escP l ++ 34 :: u)) = false := by simp [stopP, hd, n1, n4]
      rw [plain_more [34] f _ hs]
      simp only [pByte, n2, if_false, List.drop_succ_cons, List.drop_zero, esc_read u l f (by omega)]
theorem quoted_word (N : Nat) (l u : List UInt8) (hu : Ends u) : ∃ w, wordL N (34 :: (escP l ++ 34 :: u)) = .ok (w, u) ∧ textL w = some l ∧ w.braced = false := by
  have hcl : ∀ w, closedL N w u = .ok (w, u) := by
    intro w
    cases u with
    | nil => rfl
    | cons d t => rw [closedL, if_pos (hu d t rfl)]
  cases l with
  | nil =>
    refine ⟨⟨N - (34 :: 34 :: u).length, false, [⟨1, N - (34 :: 34 :: u).length, 0, []⟩]⟩, ?_, rfl, rfl⟩
    rw [wordL, if_neg (by simp), if_pos (by rfl), List.tail_cons, show escP [] ++ 34 :: u = 34 :: u from rfl, parts_end N _ [34] (34 :: u) (fun d t e => by cases e; decide)]
    simp only [List.isEmpty_nil, if_true, hcl]
  | cons c l =>
    have hpl := esc_read u (c :: l) (escP (c :: l) ++ 34 :: u).length (by simp)
    obtain ⟨d, r, hdr, h1, h2, h3⟩ : ∃ d r, escP (c :: l) ++ 34 :: u = d :: r ∧ d ≠ 34 ∧ d ≠ 91 ∧ dolB (d :: r) = false := by
      rw [escP_cons, escB]
      cases hc : isE c with
      | true => exact ⟨92, c :: (escP l ++ 34 :: u), by simp, by decide, by decide, by simp [dolB]⟩
      | false =>
        refine ⟨c, escP l ++ 34 :: u, by simp, by rintro rfl; revert hc; decide, by rintro rfl; revert hc; decide, ?_⟩
        have n3 : c ≠ 36 := by rintro rfl; revert hc; decide
        cases escP l ++ 34 :: u with
        | nil => rfl
        | cons a b => simp [dolB, n3]
    rw [hdr] at hpl ⊢
    refine ⟨⟨N - (34 :: d :: r).length, false, [⟨1, N - (d :: r).length, 0, c :: l⟩]⟩, ?_, rfl, rfl⟩
    rw [wordL, if_neg (by simp), if_pos (by rfl), List.tail_cons, List.length_cons, partsL, if_neg (by simp [h1]), partL, if_neg (by simp [h2]), h3, if_neg (by simp), hpl]
    simp only
    rw [parts_end N _ [34] (34 :: u) (fun d t e => by cases e; decide)]
    simp only [List.isEmpty_cons, Bool.false_eq_true, if_false, hcl]
/-- What Quote makes of a text, read. -/
theorem quote_word (N : Nat) (l u : List UInt8) (hu : Ends u) : (∃ w, wordL N (quoteB l ++ u) = .ok (w, u) ∧ textL w = some l ∧ w.braced = false) ∧ ∃ c r, quoteB l = c :: r ∧ blk c = false ∧ c ≠ 35 ∧ sepS.contains c = false := by
  unfold quoteB
  cases hr : readsB (l ++ [32]) l with
  | true =>
    rw [if_pos rfl]
    obtain ⟨hp, c, r, rfl, h1, h2, h3, h4⟩ := reads_plain l hr
    refine ⟨⟨_, bare_word N c r u hp h3 h4 hu, rfl, rfl⟩, c, r, rfl, h1, h2, ?_⟩
    simp only [plainT, Bool.and_eq_true, Bool.not_eq_true'] at hp
    have h5 := hp.1.1
    cases hs : sepS.contains c with
    | false => rfl
    | true =>
      have hc : c = 10 ∨ c = 59 := by simpa [sepS] using hs
      rcases hc with rfl | rfl <;> simp [stopP, endS] at h5
  | false =>
    rw [if_neg (by simp)]
    refine ⟨?_, 34, _, rfl, by decide, by decide, by decide⟩
    rw [show 34 :: (escP l ++ [34]) ++ u = 34 :: (escP l ++ 34 :: u) by simp]
    exact quoted_word N l u hu
/-- Alone. -/
theorem quote_alone (l : List UInt8) : ∃ w, scanL (quoteB l) = .ok [⟨0, [w]⟩] ∧ textL w = some l ∧ w.braced = false := by
  obtain ⟨⟨w, h1, h2, h3⟩, c, r, h4, h5, h6, h7⟩ := quote_word (quoteB l).length l [] Ends.nil
  rw [List.append_nil] at h1
  rw [h4, List.length_cons] at h1
  rw [h4]
  exact ⟨w, scan_word c r w h5 h6 h7 h1, h2, h3⟩
theorem drop_blk (c : UInt8) (r : List UInt8) (h : blk c = false) : (32 :: (c :: r)).dropWhile blk = c :: r := by
  rw [List.dropWhile_cons, if_pos (by decide), List.dropWhile_cons, h]
  simp
/-- Among others. -/
theorem quote_among (l t : List UInt8) : ∃ w0 w1 w2 w3 n, scanL ([120, 32] ++ quoteB l ++ [32] ++ quoteB t ++ [59, 121]) = .ok [⟨0, [w0, w1, w2]⟩, ⟨n, [w3]⟩] ∧ textL w1 = some l ∧ textL w2 = some t := by
  obtain ⟨N, hN⟩ : ∃ N, N = ([120, 32] ++ quoteB l ++ [32] ++ quoteB t ++ [59, 121]).length := ⟨_, rfl⟩
  obtain ⟨⟨w1, a1, a2, _⟩, c1, r1, a4, a5, a6, a7⟩ := quote_word N l (32 :: (quoteB t ++ [59, 121])) (Ends.cons (by decide))
  obtain ⟨⟨w2, b1, b2, _⟩, c2, r2, b4, b5, b6, b7⟩ := quote_word N t [59, 121] (Ends.cons (by decide))
  rw [scanL, ← hN]
  have hS : [120, 32] ++ quoteB l ++ [32] ++ quoteB t ++ [59, 121] = 120 :: ([] ++ 32 :: (quoteB l ++ 32 :: (quoteB t ++ [59, 121]))) := by simp
  rw [hS] at hN ⊢
  have w0 := bare_word N 120 [] (32 :: (quoteB l ++ 32 :: (quoteB t ++ [59, 121]))) (by decide) (by decide) (by decide) (Ends.cons (by decide))
  have w3 := bare_word N 121 [] [] (by decide) (by decide) (by decide) Ends.nil
  rw [a4] at hN w0 a1 ⊢
  rw [b4] at hN w0 a1 b1 ⊢
  simp only [List.nil_append, List.cons_append, List.append_nil] at hN w0 w3 a1 b1 ⊢
  have ho : over (120 :: 32 :: c1 :: (r1 ++ 32 :: c2 :: (r2 ++ [59, 121]))) = 120 :: 32 :: c1 :: (r1 ++ 32 :: c2 :: (r2 ++ [59, 121])) := by
    have hb : blk 120 = false := by decide
    rw [over, overC, List.dropWhile_cons, hb]
    simp
  have hM : ∃ M, N = M + 1 + 1 + 1 + 1 := ⟨r1.length + r2.length + 3, by rw [hN]; simp; omega⟩
  obtain ⟨M, hM⟩ := hM
  have d1 : (59 :: [121] : List UInt8).dropWhile blk = [59, 121] := by
    rw [List.dropWhile_cons, if_neg (by decide)]
  have hws : wordsL N N (120 :: 32 :: c1 :: (r1 ++ 32 :: c2 :: (r2 ++ [59, 121]))) = .ok ([⟨N - (120 :: 32 :: c1 :: (r1 ++ 32 :: c2 :: (r2 ++ [59, 121]))).length, false, [⟨1, N - (120 :: 32 :: c1 :: (r1 ++ 32 :: c2 :: (r2 ++ [59, 121]))).length, 0, [120]⟩]⟩, w1, w2], [59, 121]) := by
    conv => lhs; arg 2; rw [hM]
    rw [wordsL, if_neg (by decide), w0]
    simp only
    rw [drop_blk _ _ a5, wordsL, a7, if_neg (by simp), a1]
    simp only
    rw [drop_blk _ _ b5, wordsL, b7, if_neg (by simp), b1]
    simp only
    rw [d1, wordsL, if_pos (by decide)]
  have hc1 : commandL N (120 :: 32 :: c1 :: (r1 ++ 32 :: c2 :: (r2 ++ [59, 121]))) = .ok (⟨0, [⟨N - (120 :: 32 :: c1 :: (r1 ++ 32 :: c2 :: (r2 ++ [59, 121]))).length, false, [⟨1, N - (120 :: 32 :: c1 :: (r1 ++ 32 :: c2 :: (r2 ++ [59, 121]))).length, 0, [120]⟩]⟩, w1, w2]⟩, [121]) := by
    rw [commandL, ho, ← hN, hws]
    simp only [← hN, Nat.sub_self, List.tail_cons]
  have hc2 : commandL N [121] = .ok (⟨N - 1, [⟨N - 1, false, [⟨1, N - 1, 0, [121]⟩]⟩]⟩, []) := by
    have ho2 : over [121] = [121] := by decide
    have hw : wordsL N 1 [121] = .ok ([⟨N - 1, false, [⟨1, N - 1, 0, [121]⟩]⟩], []) := by
      rw [wordsL, if_neg (by decide), w3]
      simp only [List.dropWhile_nil, words_doneB, List.length_cons, List.length_nil]
    rw [commandL, ho2, show ([121] : List UInt8).length = 1 from rfl, hw]
    rfl
  refine ⟨⟨N - (120 :: 32 :: c1 :: (r1 ++ 32 :: c2 :: (r2 ++ [59, 121]))).length, false, [⟨1, N - (120 :: 32 :: c1 :: (r1 ++ 32 :: c2 :: (r2 ++ [59, 121]))).length, 0, [120]⟩]⟩, w1, w2, ⟨N - 1, false, [⟨1, N - 1, 0, [121]⟩]⟩, N - 1, ?_, a2, b2⟩
  have h1 : scanW (commandL N) (M + 1 + 1 + 1 + 1) (120 :: 32 :: c1 :: (r1 ++ 32 :: c2 :: (r2 ++ [59, 121]))) = .ok [⟨0, [⟨N - (120 :: 32 :: c1 :: (r1 ++ 32 :: c2 :: (r2 ++ [59, 121]))).length, false, [⟨1, N - (120 :: 32 :: c1 :: (r1 ++ 32 :: c2 :: (r2 ++ [59, 121]))).length, 0, [120]⟩]⟩, w1, w2]⟩, ⟨N - 1, [⟨N - 1, false, [⟨1, N - 1, 0, [121]⟩]⟩]⟩] := by
    rw [scanW, hc1]
    simp only
    rw [scanW, hc2]
    simp only [scan_doneB, List.isEmpty_cons, Bool.false_eq_true, if_false, ← hN, Nat.sub_self]
  rw [← hM] at h1
  exact h1
end Go.Proofs.YtlihkblllakhmaaGreatDoor
namespace Go.Proofs.YtlihkblllakhmaaGreatDoor

theorem passB_app (b : List UInt8) : ∀ (f : Nat) (L : List UInt8) (n : Nat) (r : List UInt8), L.length ≤ f → passB n L = some r → passB n (L ++ b) = some (r ++ b)
  | _, [], n, r, _, h => by rw [passB_nil] at h; cases h
  | 0, c :: t, n, r, hf, _ => absurd hf (by simp)
  | f + 1, c :: t, n, r, hf, h => by
    simp only [List.length_cons] at hf
    rw [List.cons_append, passB_cons]
    rw [passB_cons] at h
    split
    · rename_i hc
      rw [if_pos hc] at h
      cases t with
      | nil => rw [List.tail_nil, passB_nil] at h; cases h
      | cons d t => exact passB_app b f t n r (by simp at hf; omega) h
    · rename_i hc
      rw [if_neg hc] at h
      split
      · rename_i hc
        rw [if_pos hc] at h
        exact passB_app b f t (n + 1) r (by omega) h
      · rename_i hc
        rw [if_neg hc] at h
        split
        · rename_i hc
          rw [if_pos hc] at h
          split
          · rename_i hn
            rw [if_pos hn] at h
            cases h
            rfl
          · rename_i hn
            rw [if_neg hn] at h
            exact passB_app b f t (n - 1) r (by omega) h
        · rename_i hc
          rw [if_neg hc] at h
          exact passB_app b f t n r (by omega) h
theorem passB_split (b : List UInt8) : ∀ (f : Nat) (a : List UInt8) (n : Nat) (r : List UInt8), a.length ≤ f → passB n (a ++ b) = some r → b.length ≤ r.length → ∃ r', passB n a = some r' ∧ r = r' ++ b
  | _, [], n, r, _, h, hl => by
    have := passB_lt _ _ _ _ (Nat.le_refl _) h
    simp at this
    omega
  | 0, c :: t, n, r, hf, _, _ => absurd hf (by simp)
  | f + 1, c :: t, n, r, hf, h, hl => by
    simp only [List.length_cons] at hf
    rw [List.cons_append, passB_cons] at h
    rw [passB_cons]
    split
    · rename_i hc
      rw [if_pos hc] at h
      cases t with
      | nil =>
        have := passB_lt _ _ _ _ (Nat.le_refl _) h
        simp at this
        omega
      | cons d t => exact passB_split b f t n r (by simp at hf; omega) h hl
    · rename_i hc
      rw [if_neg hc] at h
      split
      · rename_i hc
        rw [if_pos hc] at h
        exact passB_split b f t (n + 1) r (by omega) h hl
      · rename_i hc
        rw [if_neg hc] at h
        split
        · rename_i hc
          rw [if_pos hc] at h
          split
          · rename_i hn
            rw [if_pos hn] at h
            cases h
            exact ⟨t, rfl, rfl⟩
          · rename_i hn
            rw [if_neg hn] at h
            exact passB_split b f t (n - 1) r (by omega) h hl
        · rename_i hc
          rw [if_neg hc] at h
          exact passB_split b f t n r (by omega) h hl
/-- A braced word. -/
theorem braced_ok (N : Nat) (l u : List UInt8) (hb : passB 0 (l ++ [125]) = some []) (hu : Ends u) : wordL N (123 :: (l ++ 125 :: u)) = .ok (⟨N - (123 :: (l ++ 125 :: u)).length, true, [⟨1, N - (123 :: (l ++ 125 :: u)).length + 1, 0, l⟩]⟩, u) := by
  have h := passB_app u _ _ _ _ (Nat.le_refl _) hb
  rw [List.append_assoc, List.nil_append, List.singleton_append] at h
  have ht : (l ++ 125 :: u).take ((l ++ 125 :: u).length - u.length - 1) = l := by
    rw [show (l ++ 125 :: u).length - u.length - 1 = l.length by simp; omega, List.take_left']
    rfl
  rw [wordL, if_pos (by rfl), List.tail_cons, h]
  simp only [ht]
  cases u with
  | nil => rfl
  | cons d t => rw [closedL, if_pos (hu d t rfl)]
/-- What a braced word comes from. -/
theorem braced_of {N : Nat} {t u x : List UInt8} {w : Wd} (h : wordL N (123 :: t) = .ok (w, u)) (hx : textL w = some x) : passB 0 t = some u ∧ x.length = t.length - u.length - 1 ∧ u.length < t.length := by
  rw [wordL, if_pos (by rfl), List.tail_cons] at h
  cases hb : passB 0 t with
  | none => rw [hb] at h; cases h
  | some v =>
    rw [hb] at h
    simp only at h
    obtain rfl := closed_ok h
    have hlt := passB_lt _ _ _ _ (Nat.le_refl _) hb
    have hw : w = ⟨N - (123 :: t).length, true, [⟨1, N - (123 :: t).length + 1, 0, t.take (t.length - u.length - 1)⟩]⟩ := by
      unfold closedL at h
      cases u with
      | nil => cases h; rfl
      | cons c t =>
        simp only at h
        split at h
        · cases h; rfl
        · cases h
    rw [hw] at hx
    simp [textL] at hx
    have hlx := congrArg List.length hx
    rw [List.length_take] at hlx
    exact ⟨rfl, by omega, hlt⟩
/-- Is the second of three words braced, and just this text? -/
def fineB (R : Except Er (List Cm)) (l : List UInt8) : Bool := match R with
  | .ok [m] => (match m.words with
    | [_, w, _] => w.braced && (textL w == some l)
    | _ => false)
  | _ => false
def amongL (l : List UInt8) : List UInt8 := 120 :: 32 :: 123 :: (l ++ [125, 32, 121])
theorem among_words (N f : Nat) (R : List UInt8) : wordsL N (f + 1 + 1) (120 :: 32 :: 123 :: R) = preW [⟨N - (120 :: 32 :: 123 :: R).length, false, [⟨1, N - (120 :: 32 :: 123 :: R).length, 0, [120]⟩]⟩] (wordsL N (f + 1) (123 :: R)) := by
  have w0 := bare_word N 120 [] (32 :: 123 :: R) (by decide) (by decide) (by decide) (Ends.cons (by decide))
  simp only [List.nil_append] at w0
  rw [words_ok N (f + 1) 120 (32 :: 123 :: R) (by decide) _ _ w0, drop_blk 123 R (by decide)]
theorem among_over (R : List UInt8) : over (120 :: R) = 120 :: R := by
  have hb : blk 120 = false := by decide
  rw [over, overC, List.dropWhile_cons, hb]
  simp
theorem among_yes (l : List UInt8) (hb : passB 0 (l ++ [125]) = some []) : ∃ w0 w1 w2, scanL (amongL l) = .ok [⟨0, [w0, w1, w2]⟩] ∧ w1.braced = true ∧ textL w1 = some l := by
  obtain ⟨N, hN⟩ : ∃ N, N = (amongL l).length := ⟨_, rfl⟩
  have hw1 := braced_ok N l [32, 121] hb (Ends.cons (by decide))
  have w3 := bare_word N 121 [] [] (by decide) (by decide) (by decide) Ends.nil
  simp only [List.nil_append] at w3
  have hM : ∃ M, N = M + 1 + 1 + 1 := ⟨l.length + 3, by rw [hN, amongL]; simp⟩
  obtain ⟨M, hM⟩ := hM
  have d1 : (32 :: [121] : List UInt8).dropWhile blk = [121] := by decide
  have hws : wordsL N N (amongL l) = .ok ([⟨N - (amongL l).length, false, [⟨1, N - (amongL l).length, 0, [120]⟩]⟩, ⟨N - (123 :: (l ++ [125, 32, 121])).length, true, [⟨1, N - (123 :: (l ++ [125, 32, 121])).length + 1, 0, l⟩]⟩, ⟨N - 1, false, [⟨1, N - 1, 0, [121]⟩]⟩], []) := by
    have h1 := among_words N (M + 1) (l ++ [125, 32, 121])
    have h2 : wordsL N (M + 1 + 1) (123 :: (l ++ [125, 32, 121])) = .ok ([⟨N - (123 :: (l ++ [125, 32, 121])).length, true, [⟨1, N - (123 :: (l ++ [125, 32, 121])).length + 1, 0, l⟩]⟩, ⟨N - 1, false, [⟨1, N - 1, 0, [121]⟩]⟩], []) := by
      rw [words_ok N (M + 1) 123 _ (by decide) _ _ hw1, d1, words_ok N M 121 [] (by decide) _ _ w3]
      simp only [List.dropWhile_nil, words_doneB, preW]
      rfl
    rw [h2, ← hM] at h1
    exact h1
  refine ⟨⟨N - (amongL l).length, false, [⟨1, N - (amongL l).length, 0, [120]⟩]⟩, ⟨N - (123 :: (l ++ [125, 32, 121])).length, true, [⟨1, N - (123 :: (l ++ [125, 32, 121])).length + 1, 0, l⟩]⟩, ⟨N - 1, false, [⟨1, N - 1, 0, [121]⟩]⟩, ?_, rfl, rfl⟩
  have hc1 : commandL N (amongL l) = .ok (⟨N - N, [⟨N - (amongL l).length, false, [⟨1, N - (amongL l).length, 0, [120]⟩]⟩, ⟨N - (123 :: (l ++ [125, 32, 121])).length, true, [⟨1, N - (123 :: (l ++ [125, 32, 121])).length + 1, 0, l⟩]⟩, ⟨N - 1, false, [⟨1, N - 1, 0, [121]⟩]⟩]⟩, []) := by
    have ho : over (amongL l) = amongL l := among_over _
    rw [commandL, ho, ← hN]
    rw [hws]
    simp only [← hN, List.tail_nil]
  rw [scanL, ← hN]
  have h3 : scanW (commandL N) (M + 1 + 1 + 1) (amongL l) = .ok [⟨N - N, [⟨N - (amongL l).length, false, [⟨1, N - (amongL l).length, 0, [120]⟩]⟩, ⟨N - (123 :: (l ++ [125, 32, 121])).length, true, [⟨1, N - (123 :: (l ++ [125, 32, 121])).length + 1, 0, l⟩]⟩, ⟨N - 1, false, [⟨1, N - 1, 0, [121]⟩]⟩]⟩] := by
    have e : amongL l = 120 :: (32 :: 123 :: (l ++ [125, 32, 121])) := rfl
    rw [e, scanW, ← e, hc1]
    simp only [scan_doneB, List.isEmpty_cons, Bool.false_eq_true, if_false]
  rw [← hM] at h3
  simp only [Nat.sub_self, ← hN] at h3 ⊢
  exact h3
/-- The first word of a source that begins with one. -/
theorem scan_first {c : UInt8} {t : List UInt8} {ms : List Cm} (h : scanL (c :: t) = .ok ms) (ho : over (c :: t) = c :: t) (hs : sepS.contains c = false) : ∃ m ms' w ws v, ms = m :: ms' ∧ m.words = w :: ws ∧ wordsL (t.length + 1) (t.length + 1) (c :: t) = .ok (w :: ws, v) := by
  rw [scanL, List.length_cons, scanW] at h
  cases hc : commandL (t.length + 1) (c :: t) with
  | error x => rw [hc] at h; cases h
  | ok q =>
    rw [hc] at h
    simp only at h
    cases hr : scanW (commandL (t.length + 1)) t.length q.2 with
    | error x => rw [hr] at h; cases h
    | ok ms' =>
      rw [hr] at h
      simp only [Except.ok.injEq] at h
      unfold commandL at hc
      rw [ho, List.length_cons] at hc
      cases hw : wordsL (t.length + 1) (t.length + 1) (c :: t) with
      | error x => rw [hw] at hc; cases hc
      | ok r =>
        rw [hw] at hc
        simp only [Except.ok.injEq] at hc
        obtain ⟨ws, v⟩ := r
        cases ws with
        | nil =>
          have hv := words_empty hw
          rw [wordsL, hs, if_neg (by simp)] at hw
          cases hp : wordL (t.length + 1) (c :: t) with
          | error x => rw [hp] at hw; cases hw
          | ok q' =>
            rw [hp] at hw
            simp only at hw
            cases hq : wordsL (t.length + 1) t.length (q'.2.dropWhile blk) with
            | error x => rw [hq] at hw; cases hw
            | ok r => rw [hq] at hw; cases hw
        | cons w ws =>
          rw [← hc] at h
          simp only [List.isEmpty_cons, Bool.false_eq_true, if_false] at h
          exact ⟨_, ms', w, ws, v, h.symm, rfl, rfl⟩
theorem brace_yes (l : List UInt8) (hl : l.length ≤ 300) (hb : passB 0 (l ++ [125]) = some []) : braceB l = some (bracedL l) := by
  have hw := braced_ok (l.length + 2) l [] hb Ends.nil
  have hs : scanL (bracedL l) = .ok [⟨0, [⟨0, true, [⟨1, 1, 0, l⟩]⟩]⟩] := by
    refine scan_word 123 (l ++ [125]) _ (by decide) (by decide) (by decide) ?_
    have e : (l ++ [125]).length + 1 = l.length + 2 := by simp
    rw [e, hw]
    simp
  have hr : readsB (bracedL l) l = true := by
    rw [readsB, if_pos (by simp [bracedL]; omega), hs]
    simp [oneW, textL]
  rw [braceB, hr, if_pos rfl]
theorem brace_no (l : List UInt8) (hb : passB 0 (l ++ [125]) ≠ some []) : braceB l = none := by
  rw [braceB]
  cases hr : readsB (bracedL l) l with
  | false => rfl
  | true =>
    exfalso
    unfold readsB at hr
    split at hr
    · simp only [beq_iff_eq] at hr
      unfold oneW at hr
      split at hr
      · rename_i m hsc
        split at hr
        · rename_i w hm
          have ho : over (123 :: (l ++ [125])) = 123 :: (l ++ [125]) := by
            have hb : blk 123 = false := by decide
            rw [over, overC, List.dropWhile_cons, hb]
            simp
          obtain ⟨m', ms', w', ws, v, e1, e2, e3⟩ := scan_first (c := 123) (t := l ++ [125]) hsc ho (by decide)
          cases e1
          rw [hm] at e2
          cases e2
          obtain ⟨_, u, e4⟩ := words_first e3
          obtain ⟨f1, f2, f3⟩ := braced_of e4 hr
          simp at f2 f3
          have : u = [] := List.eq_nil_of_length_eq_zero (by omega)
          rw [this] at f1
          exact hb f1
        · cases hr
      · cases hr
    · cases hr
theorem among_no (l : List UInt8) (hb : passB 0 (l ++ [125]) ≠ some []) : fineB (scanL (amongL l)) l = false := by
  cases hf : fineB (scanL (amongL l)) l with
  | false => rfl
  | true =>
    exfalso
    unfold fineB at hf
    split at hf
    · rename_i m hsc
      split at hf
      · rename_i w0 w1 w2 hm
        simp only [Bool.and_eq_true, beq_iff_eq] at hf
        obtain ⟨m', ms', w', ws, v, e1, e2, e3⟩ := scan_first (c := 120) (t := 32 :: 123 :: (l ++ [125, 32, 121])) hsc (among_over _) (by decide)
        cases e1
        rw [hm] at e2
        cases e2
        rw [show (32 :: 123 :: (l ++ [125, 32, 121])).length + 1 = (l ++ [125, 32, 121]).length + 1 + 1 + 1 by simp, among_words] at e3
        cases hq : wordsL ((l ++ [125, 32, 121]).length + 1 + 1 + 1) ((l ++ [125, 32, 121]).length + 1 + 1) (123 :: (l ++ [125, 32, 121])) with
        | error x => rw [hq] at e3; cases e3
        | ok q =>
          rw [hq] at e3
          simp only [preW, Except.ok.injEq, Prod.mk.injEq, List.singleton_append, List.cons.injEq] at e3
          obtain ⟨ws', v'⟩ := q
          simp only at e3
          rw [e3.1.2] at hq
          obtain ⟨_, u, e4⟩ := words_first hq
          obtain ⟨f1, f2, f3⟩ := braced_of e4 hf.2
          simp at f2 f3
          have hl : (l ++ [125, 32, 121]) = (l ++ [125]) ++ [32, 121] := by simp
          rw [hl] at f1
          obtain ⟨r', g1, g2⟩ := passB_split [32, 121] _ _ _ _ (Nat.le_refl _) f1 (by simp; omega)
          have : r' = [] := List.eq_nil_of_length_eq_zero (by
            have := congrArg List.length g2
            simp at this
            omega)
          rw [this] at g1
          exact hb g1
      · cases hf
    · cases hf
/-- A text may stand between braces alone just where it may among others. -/
theorem among_brace (l : List UInt8) (hl : l.length ≤ 300) : fineB (scanL (amongL l)) l = (braceB l).isSome ∧ (braceB l = none ∨ braceB l = some (bracedL l)) := by
  by_cases hb : passB 0 (l ++ [125]) = some []
  · obtain ⟨w0, w1, w2, h1, h2, h3⟩ := among_yes l hb
    rw [h1, brace_yes l hl hb]
    refine ⟨?_, .inr rfl⟩
    simp [fineB, h2, h3]
  · rw [among_no l hb, brace_no l hb]
    exact ⟨rfl, .inl rfl⟩
end Go.Proofs.YtlihkblllakhmaaGreatDoor
