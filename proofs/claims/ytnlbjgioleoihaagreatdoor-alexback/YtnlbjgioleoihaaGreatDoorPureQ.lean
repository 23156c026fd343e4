/- Plain: the tokens of a text between quotes. -/
import Derived.Test.YtnlbjgioleoihaaGreatDoorPureN
namespace Go.Proofs.YtnlbjgioleoihaaGreatDoor

/-- A text as it stands between single quotes, between double quotes, behind backslashes. -/
def escS : List UInt8 → List UInt8
  | [] => []
  | c :: t => (if c = 39 then [39, 92, 39, 39] else [c]) ++ escS t
def dblC (c : UInt8) : Bool := c == 36 || c == 34 || c == 92
def escD : List UInt8 → List UInt8
  | [] => []
  | c :: t => (if dblC c then [92, c] else [c]) ++ escD t
def escB : List UInt8 → List UInt8
  | [] => []
  | c :: t => 92 :: c :: escB t
theorem escS_app : ∀ a b : List UInt8, escS (a ++ b) = escS a ++ escS b
  | [], b => rfl
  | c :: t, b => by rw [List.cons_append, escS, escS, escS_app t b, List.append_assoc]
theorem escD_app : ∀ a b : List UInt8, escD (a ++ b) = escD a ++ escD b
  | [], b => rfl
  | c :: t, b => by rw [List.cons_append, escD, escD, escD_app t b, List.append_assoc]
theorem escB_app : ∀ a b : List UInt8, escB (a ++ b) = escB a ++ escB b
  | [], b => rfl
  | c :: t, b => by rw [List.cons_append, escB, escB, escB_app t b]; rfl
theorem escS_len : ∀ a : List UInt8, (escS a).length ≤ 4 * a.length
  | [] => by simp [escS]
  | c :: t => by
    have := escS_len t
    rw [escS, List.length_append, List.length_cons]
    split <;> simp <;> omega
theorem escD_len : ∀ a : List UInt8, (escD a).length ≤ 2 * a.length
  | [] => by simp [escD]
  | c :: t => by
    have := escD_len t
    rw [escD, List.length_append, List.length_cons]
    split <;> simp <;> omega
theorem escB_len : ∀ a : List UInt8, (escB a).length = 2 * a.length
  | [] => by simp [escB]
  | c :: t => by
    have := escB_len t
    rw [escB, List.length_cons, List.length_cons, List.length_cons]
    omega
/-- Up to the first single quote. -/
theorem cut39 : ∀ s : List UInt8, (39 : UInt8) ∉ s ∨ ∃ a b, (39 : UInt8) ∉ a ∧ s = a ++ 39 :: b
  | [] => Or.inl (by simp)
  | c :: t => by
    by_cases hc : c = 39
    · exact Or.inr ⟨[], t, by simp, by rw [hc]; rfl⟩
    · rcases cut39 t with h | ⟨a, b, h1, h2⟩
      · exact Or.inl (by simp [h]; exact fun e => hc e.symm)
      · exact Or.inr ⟨c :: a, b, by simp [h1]; exact fun e => hc e.symm, by rw [h2]; rfl⟩
theorem escS_none : ∀ s : List UInt8, (39 : UInt8) ∉ s → escS s = s
  | [], _ => rfl
  | c :: t, h => by
    simp only [List.mem_cons, not_or] at h
    rw [escS, if_neg (fun e => h.1 e.symm), escS_none t h.2]
    rfl
theorem pSing_at : ∀ (a u : List UInt8), (39 : UInt8) ∉ a → pSing (a ++ 39 :: u) = some u
  | [], u, _ => by rw [List.nil_append, pSing, if_pos rfl]
  | c :: t, u, h => by
    simp only [List.mem_cons, not_or] at h
    rw [List.cons_append, pSing, if_neg (fun e => h.1 e.symm), pSing_at t u h.2]
theorem take_at (a u : List UInt8) (c : UInt8) : (a ++ c :: u).take ((a ++ c :: u).length - u.length - 1) = a := by
  rw [show (a ++ c :: u).length - u.length - 1 = a.length by rw [List.length_append, List.length_cons]; omega]
  simp
/-- The parts are dead, and together this text. -/
def Dead (ps : List Pt) (s : List UInt8) : Prop := (∀ p ∈ ps, p.kind = 2) ∧ (ps.map (·.s)).flatten = s ∧ ps.length ≤ 3 * s.length + 1
theorem single_word (N : Nat) (r : List UInt8) (hr : r = [] ∨ ∃ c t, r = c :: t ∧ wEnd c = true) : ∀ (n f : Nat) (s : List UInt8), s.length ≤ n → (39 :: (escS s ++ 39 :: r)).length ≤ f → ∃ ps, word N f (39 :: (escS s ++ 39 :: r)) = .ok (ps, r) ∧ Dead ps s := by
  intro n
  induction n with
  | zero =>
    intro f s hs hf
    obtain rfl := List.eq_nil_of_length_eq_zero (Nat.le_zero.1 hs)
    obtain ⟨f, rfl⟩ : ∃ f', f = f' + 1 := ⟨f - 1, by simp at hf; omega⟩
    have hp : parts N 39 ([] ++ 39 :: r) = .ok ([⟨2, N - (([] ++ 39 :: r : List UInt8).length + 1), 0, false, []⟩], r) := by
      rw [parts.eq_def, if_neg (by decide), if_pos rfl, pSing_at [] r (by simp)]
      simp only [take_at]
    refine ⟨_, by rw [escS, word_ok N f 39 _ (by decide) _ _ hp, word_end N f r hr]; rfl, ?_, ?_, ?_⟩ <;> simp
  | succ n ih =>
    intro f s hs hf
    obtain ⟨f, rfl⟩ : ∃ f', f = f' + 1 := ⟨f - 1, by simp at hf; omega⟩
    rcases cut39 s with h | ⟨a, b, h1, rfl⟩
    · rw [escS_none s h] at hf ⊢
      have hp : parts N 39 (s ++ 39 :: r) = .ok ([⟨2, N - ((s ++ 39 :: r).length + 1), 0, false, s⟩], r) := by
        rw [parts.eq_def, if_neg (by decide), if_pos rfl, pSing_at s r h]
        simp only [take_at]
      refine ⟨_, by rw [word_ok N f 39 _ (by decide) _ _ hp, word_end N f r hr]; rfl, ?_, ?_, ?_⟩ <;> simp
    · have he : escS (a ++ 39 :: b) ++ 39 :: r = a ++ 39 :: (92 :: 39 :: (39 :: (escS b ++ 39 :: r))) := by
        rw [escS_app, escS_none a h1, escS, if_pos rfl]
        simp
      rw [he] at hf ⊢
      simp only [List.length_cons, List.length_append] at hf hs
      obtain ⟨f, rfl⟩ : ∃ f', f = f' + 1 := ⟨f - 1, by omega⟩
      obtain ⟨ps, hw, hk, hd, hl⟩ := ih f b (by omega) (by simp; omega)
      have hp : parts N 39 (a ++ 39 :: (92 :: 39 :: (39 :: (escS b ++ 39 :: r)))) = .ok ([⟨2, N - ((a ++ 39 :: (92 :: 39 :: (39 :: (escS b ++ 39 :: r)))).length + 1), 0, false, a⟩], 92 :: 39 :: (39 :: (escS b ++ 39 :: r))) := by
        rw [parts.eq_def, if_neg (by decide), if_pos rfl, pSing_at a _ h1]
        simp only [take_at]
      have hp2 : parts N 92 (39 :: (39 :: (escS b ++ 39 :: r))) = .ok ([⟨2, N - ((39 :: (39 :: (escS b ++ 39 :: r))).length + 1), 0, false, [39]⟩], 39 :: (escS b ++ 39 :: r)) := by
        rw [parts, if_pos rfl]
        rfl
      refine ⟨_, by rw [word_ok N _ 39 _ (by decide) _ _ hp, word_ok N _ 92 _ (by decide) _ _ hp2, hw]; rfl, ?_, ?_, ?_⟩
      · intro p hp
        simp only [List.cons_append, List.nil_append, List.mem_cons] at hp
        rcases hp with rfl | rfl | hp
        · rfl
        · rfl
        · exact hk p hp
      · simp [hd]
      · simp; omega
theorem dByte_esc (c : UInt8) (u : List UInt8) (h : dblC c = true) : dByte (92 :: c :: u) = ([c], 2) := by
  have : c = 36 ∨ c = 34 ∨ c = 92 := by simpa [dblC, or_assoc] using h
  rw [dByte, if_pos rfl]
  simp only [this, if_true]
theorem dead_esc : ∀ (f : Nat) (s r : List UInt8), (escD s ++ 34 :: r).length ≤ f → dead f (escD s ++ 34 :: r) = (s, 34 :: r) := by
  intro f
  induction f with
  | zero => intro s r h; simp at h
  | succ f ih =>
    intro s r h
    cases s with
    | nil => rw [escD, List.nil_append, dead, if_pos (Or.inl rfl)]
    | cons c t =>
      cases hc : dblC c with
      | true =>
        rw [escD, hc, if_pos rfl] at h ⊢
        simp only [List.cons_append, List.nil_append, List.length_cons, List.length_append] at h
        simp only [List.cons_append, List.nil_append]
        rw [dead, if_neg (by simp [dolB]), dByte_esc c _ hc]
        simp only [List.drop_succ_cons, List.drop_zero]
        rw [ih t r (by simp; omega)]
        rfl
      | false =>
        rw [escD, hc, if_neg (by simp)] at h ⊢
        simp only [List.cons_append, List.nil_append, List.length_cons, List.length_append] at h
        simp only [List.cons_append, List.nil_append]
        have hn : c ≠ 36 ∧ c ≠ 34 ∧ c ≠ 92 := by simpa [dblC, and_assoc] using hc
        have hdl : dolB (c :: (escD t ++ 34 :: r)) = false := by
          cases hx : escD t ++ 34 :: r with
          | nil => rfl
          | cons d u => simp [dolB, hn.1]
        have hb : dByte (c :: (escD t ++ 34 :: r)) = ([c], 1) := if_neg hn.2.2
        rw [dead, if_neg (by rw [hdl]; simp [hn.2.1]), hb]
        simp only [List.drop_succ_cons, List.drop_zero]
        rw [ih t r (by simp; omega)]
        rfl
theorem double_word (N f : Nat) (s r : List UInt8) (hr : r = [] ∨ ∃ c t, r = c :: t ∧ wEnd c = true) : word N (f + 1) (34 :: (escD s ++ 34 :: r)) = .ok ([⟨2, N - ((escD s ++ 34 :: r).length + 1), 0, false, s⟩], r) := by
  have hp : parts N 34 (escD s ++ 34 :: r) = .ok ([⟨2, N - ((escD s ++ 34 :: r).length + 1), 0, false, s⟩], r) := by
    rw [parts.eq_def, if_neg (by decide), if_neg (by decide), if_pos rfl, dead_esc _ s r (Nat.le_refl _), dbl, if_pos rfl]
  rw [word_ok N f 34 _ (by decide) _ _ hp, word_end N f r hr]
  rfl
theorem back_word (N : Nat) (r : List UInt8) (hr : r = [] ∨ ∃ c t, r = c :: t ∧ wEnd c = true) : ∀ (s : List UInt8) (f : Nat), (escB s ++ r).length ≤ f → ∃ ps, word N f (escB s ++ r) = .ok (ps, r) ∧ Dead ps s := by
  intro s
  induction s with
  | nil => intro f _; exact ⟨[], by rw [escB, List.nil_append, word_end N f r hr], by simp [Dead]⟩
  | cons c t ih =>
    intro f hf
    rw [escB] at hf ⊢
    simp only [List.cons_append, List.length_cons] at hf
    obtain ⟨f, rfl⟩ : ∃ f', f = f' + 1 := ⟨f - 1, by omega⟩
    obtain ⟨ps, hw, hk, hd, hl⟩ := ih f (by omega)
    have hp : parts N 92 (c :: (escB t ++ r)) = .ok ([⟨2, N - ((c :: (escB t ++ r)).length + 1), 0, false, [c]⟩], escB t ++ r) := by
      rw [parts, if_pos rfl]
      rfl
    refine ⟨_, by rw [List.cons_append, List.cons_append, word_ok N f 92 _ (by decide) _ _ hp, hw]; rfl, ?_, ?_, ?_⟩
    · intro p hp
      simp only [List.cons_append, List.nil_append, List.mem_cons] at hp
      rcases hp with rfl | hp
      · rfl
      · exact hk p hp
    · simp [hd]
    · simp; omega
/-- A word, a blank and another byte. -/
theorem lex_x (N f : Nat) (x : UInt8) (hx : x = 120 ∨ x = 99) : lexW (fun m => tokenL N (over m)) (f + 3) [32, x] = .ok [⟨13, N - 1, [⟨1, N - 1, 0, false, [x]⟩]⟩, ⟨0, N, []⟩] := by
  rcases hx with rfl | rfl <;> rfl
theorem lex_two {c : UInt8} {t : List UInt8} {ps : List Pt} {x : UInt8} (hx : x = 120 ∨ x = 99) (hc : wEnd c = false) (h35 : c ≠ 35) (hl : 2 ≤ t.length)
    (hw : word (t.length + 1) (t.length + 1) (c :: t) = .ok (ps, [32, x])) : lexL (c :: t) = .ok [⟨13, 0, ps⟩, ⟨13, t.length, [⟨1, t.length, 0, false, [x]⟩]⟩, ⟨0, t.length + 1, []⟩] := by
  obtain ⟨k, hk⟩ : ∃ k, t.length = k + 2 := ⟨t.length - 2, by omega⟩
  have h := lex_x (t.length + 1) k x hx
  rw [show k + 3 = t.length + 1 by omega] at h
  exact lex_word_ok hc h35 hw h
def qTail : List UInt8 := [32, 120]
theorem qTail_end : qTail = [] ∨ ∃ c t, qTail = c :: t ∧ wEnd c = true := Or.inr ⟨32, [120], rfl, by decide⟩
/-- What such a text's tokens are: a word that is this text, dead; another; the end. -/
def QuoL (l s : List UInt8) : Prop := ∃ (ps : List Pt) (b c : Tk), lexL l = .ok [⟨13, 0, ps⟩, b, c] ∧ Dead ps s
theorem quo_single (s : List UInt8) : QuoL (39 :: (escS s ++ 39 :: qTail)) s := by
  obtain ⟨ps, hw, hd⟩ := single_word ((escS s ++ 39 :: qTail).length + 1) qTail qTail_end s.length ((escS s ++ 39 :: qTail).length + 1) s (Nat.le_refl _) (Nat.le_refl _)
  exact ⟨ps, _, _, lex_two (Or.inl rfl) (by decide) (by decide) (by simp [qTail]) hw, hd⟩
theorem quo_double (s : List UInt8) : QuoL (34 :: (escD s ++ 34 :: qTail)) s :=
  ⟨_, _, _, lex_two (Or.inl rfl) (by decide) (by decide) (by simp [qTail]) (double_word _ _ s qTail qTail_end), by simp, by simp, by simp⟩
theorem quo_back (s : List UInt8) (h : s ≠ []) : QuoL (escB s ++ qTail) s := by
  cases s with
  | nil => exact absurd rfl h
  | cons c t =>
    obtain ⟨ps, hw, hd⟩ := back_word ((c :: (escB t ++ qTail)).length + 1) qTail qTail_end (c :: t) ((c :: (escB t ++ qTail)).length + 1) (by simp [escB])
    exact ⟨ps, _, _, lex_two (Or.inl rfl) (by decide) (by decide) (by simp [qTail]) hw, hd⟩
end Go.Proofs.YtnlbjgioleoihaaGreatDoor
