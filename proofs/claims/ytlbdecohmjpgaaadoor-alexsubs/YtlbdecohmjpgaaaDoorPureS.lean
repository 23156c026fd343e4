/- Plain: dollar brackets in one another, and in quotes. -/
import Derived.Test.YtlbdecohmjpgaaaDoorPureQ
namespace Go.Proofs.YtlbdecohmjpgaaaDoor

/-- Passed over whole within a command's brackets. -/
def Bal (T : List UInt8) : Prop := ∀ (f k : Nat) (r : List UInt8), (T ++ r).length < f → ∃ f', r.length < f' ∧ pass f (k + 1) (T ++ r) = pass f' (k + 1) r
theorem Bal.app {S T : List UInt8} (hS : Bal S) (hT : Bal T) : Bal (S ++ T) := by
  intro f k r h
  rw [List.append_assoc] at h ⊢
  obtain ⟨f1, h1, e1⟩ := hS f k (T ++ r) h
  obtain ⟨f2, h2, e2⟩ := hT f1 k r h1
  exact ⟨f2, h2, e1.trans e2⟩
/-- A byte that is nothing within brackets. -/
theorem Bal.byte {c : UInt8} (h1 : c ≠ 92) (h2 : c ≠ 39) (h3 : c ≠ 34) (h4 : c ≠ 40) (h5 : c ≠ 41) : Bal [c] := by
  intro f k r h
  simp only [List.cons_append, List.nil_append, List.length_cons] at h
  obtain ⟨f, rfl⟩ : ∃ f', f = f' + 1 := ⟨f - 1, by omega⟩
  exact ⟨f, by omega, by rw [List.cons_append, List.nil_append, pass_cmd, if_neg h1, if_neg h2, if_neg h3, if_neg h4, if_neg h5]⟩
theorem Bal.quote {a : List UInt8} (h : (39 : UInt8) ∉ a) : Bal (39 :: (a ++ [39])) := by
  intro f k r hf
  simp only [List.cons_append, List.append_assoc, List.nil_append, List.length_cons, List.length_append] at hf
  obtain ⟨f, rfl⟩ : ∃ f', f = f' + 1 := ⟨f - 1, by omega⟩
  refine ⟨f, by omega, ?_⟩
  rw [show (39 :: (a ++ [39])) ++ r = 39 :: (a ++ 39 :: r) by simp, pass_cmd, if_neg (by decide), if_pos rfl, pSing_at a r h]
  rfl
theorem Bal.esc (c : UInt8) : Bal [92, c] := by
  intro f k r h
  simp only [List.cons_append, List.nil_append, List.length_cons] at h
  obtain ⟨f, rfl⟩ : ∃ f', f = f' + 1 := ⟨f - 1, by omega⟩
  exact ⟨f, by omega, by rw [List.cons_append, pass_cmd, if_pos rfl]; rfl⟩
theorem Bal.single : ∀ (n : Nat) (s : List UInt8), s.length ≤ n → Bal (39 :: (escS s ++ [39])) := by
  intro n
  induction n with
  | zero =>
    intro s hs
    obtain rfl := List.eq_nil_of_length_eq_zero (Nat.le_zero.1 hs)
    exact Bal.quote (a := []) (by simp)
  | succ n ih =>
    intro s hs
    rcases cut39 s with h | ⟨a, b, h1, rfl⟩
    · rw [escS_none s h]; exact Bal.quote h
    · have he : 39 :: (escS (a ++ 39 :: b) ++ [39]) = (39 :: (a ++ [39])) ++ ([92, 39] ++ (39 :: (escS b ++ [39]))) := by
        rw [escS_app, escS_none a h1, escS, if_pos rfl]
        simp
      rw [he]
      simp only [List.length_append, List.length_cons] at hs
      exact (Bal.quote h1).app ((Bal.esc 39).app (ih b (by omega)))
theorem Bal.paren {T : List UInt8} (h : Bal T) : Bal (36 :: 40 :: (T ++ [41])) := by
  intro f k r hf
  have e : (36 :: 40 :: (T ++ [41])) ++ r = 36 :: 40 :: (T ++ 41 :: r) := by simp
  rw [e] at hf ⊢
  simp only [List.length_cons] at hf
  obtain ⟨f, rfl⟩ : ∃ f', f = f' + 2 := ⟨f - 2, by omega⟩
  obtain ⟨g, hg, e2⟩ := h f (k + 1) (41 :: r) (by omega)
  simp only [List.length_cons] at hg
  obtain ⟨g, rfl⟩ : ∃ f', g = f' + 1 := ⟨g - 1, by omega⟩
  refine ⟨g, by omega, ?_⟩
  rw [pass_cmd, if_neg (by decide), if_neg (by decide), if_neg (by decide), if_neg (by decide), if_neg (by decide),
    pass_cmd, if_neg (by decide), if_neg (by decide), if_neg (by decide), if_pos rfl, e2,
    pass_cmd, if_neg (by decide), if_neg (by decide), if_neg (by decide), if_neg (by decide), if_pos rfl, if_neg (by omega)]
/-- Behind a command's text. -/
theorem Bal.end {T : List UInt8} (h : Bal T) (f : Nat) (r : List UInt8) (hf : (T ++ 41 :: r).length < f) : pass f 1 (T ++ 41 :: r) = some r := by
  obtain ⟨g, hg, e2⟩ := h f 0 (41 :: r) hf
  simp only [List.length_cons] at hg
  obtain ⟨g, rfl⟩ : ∃ f', g = f' + 1 := ⟨g - 1, by omega⟩
  rw [e2, pass_cmd, if_neg (by decide), if_neg (by decide), if_neg (by decide), if_neg (by decide), if_pos rfl, if_pos rfl]
theorem Bal.none {T : List UInt8} (h : Bal T) (f : Nat) (hf : T.length < f) : pass f 1 T = Option.none := by
  obtain ⟨g, hg, e2⟩ := h f 0 [] (by simpa using hf)
  rw [List.append_nil] at e2
  rw [e2, pass_nil]
theorem Bal.inq {T : List UInt8} (h : Bal T) : Bal (34 :: 36 :: 40 :: (T ++ [41, 34])) := by
  intro f k r hf
  have e : (34 :: 36 :: 40 :: (T ++ [41, 34])) ++ r = 34 :: 36 :: 40 :: (T ++ 41 :: 34 :: r) := by simp
  rw [e] at hf ⊢
  simp only [List.length_cons, List.length_append] at hf
  obtain ⟨f, rfl⟩ : ∃ f', f = f' + 3 := ⟨f - 3, by omega⟩
  refine ⟨f + 2, by omega, ?_⟩
  rw [pass_cmd, if_neg (by decide), if_neg (by decide), if_pos rfl, pass_dbl, if_neg (by decide), if_neg (by decide), if_pos ⟨rfl, rfl⟩, List.tail_cons,
    h.end (f + 1) (34 :: r) (by simp; omega), Option.bind_some, pass_dbl, if_pos rfl, Option.bind_some]
/-- The texts in one another. -/
def sub0 (s : List UInt8) : List UInt8 := 97 :: 32 :: 39 :: (escS s ++ [39])
def wrapS (i : Nat) (T : List UInt8) : List UInt8 := if i % 2 = 0 then 98 :: 32 :: 36 :: 40 :: (T ++ [41]) else 98 :: 32 :: 34 :: 36 :: 40 :: (T ++ [41, 34])
def subN (s : List UInt8) : Nat → List UInt8
  | 0 => sub0 s
  | n + 1 => wrapS n (subN s n)
theorem bal_two {a b : UInt8} {T : List UInt8} (ha : Bal [a]) (hb : Bal [b]) (h : Bal T) : Bal (a :: b :: T) := ha.app (hb.app h)
theorem bal0 (s : List UInt8) : Bal (sub0 s) := bal_two (Bal.byte (by decide) (by decide) (by decide) (by decide) (by decide)) (Bal.byte (by decide) (by decide) (by decide) (by decide) (by decide)) (Bal.single _ s (Nat.le_refl _))
theorem balN (s : List UInt8) : ∀ n, Bal (subN s n)
  | 0 => bal0 s
  | n + 1 => by
    rw [subN, wrapS]
    split
    · exact bal_two (Bal.byte (by decide) (by decide) (by decide) (by decide) (by decide)) (Bal.byte (by decide) (by decide) (by decide) (by decide) (by decide)) (balN s n).paren
    · exact bal_two (Bal.byte (by decide) (by decide) (by decide) (by decide) (by decide)) (Bal.byte (by decide) (by decide) (by decide) (by decide) (by decide)) (balN s n).inq
theorem subN_len (s : List UInt8) : ∀ n, (subN s n).length ≤ 4 * s.length + 4 + 7 * n
  | 0 => by
    have := escS_len s
    simp [subN, sub0]; omega
  | n + 1 => by
    have := subN_len s n
    rw [subN, wrapS]
    split <;> simp <;> omega
/-- The source, and its error without the last bracket. -/
def subR : List UInt8 := [32, 99]
theorem subR_end : subR = [] ∨ ∃ c t, subR = c :: t ∧ wEnd c = true := Or.inr ⟨32, [99], rfl, by decide⟩
theorem dol_sub (N : Nat) (T r : List UInt8) (h : Bal T) : dollar N (36 :: 40 :: (T ++ 41 :: r)) = .ok (⟨4, N - ((T ++ 41 :: r).length + 2), 0, false, T⟩, r) := by
  rw [dollar, if_pos rfl, h.end _ r (by omega)]
  simp only [take_at]
theorem dol_sub_no (N : Nat) (T : List UInt8) (h : Bal T) : dollar N (36 :: 40 :: T) = .error ⟨1, N - (T.length + 2)⟩ := by
  rw [dollar, if_pos rfl, h.none _ (by omega)]
theorem dolB_sub (l : List UInt8) : dolB (36 :: 40 :: l) = true := rfl
theorem sub_bare (T : List UInt8) (h : Bal T) : lexL (36 :: 40 :: (T ++ 41 :: subR)) = .ok [⟨13, 0, [⟨4, 0, 0, false, T⟩]⟩, ⟨13, T.length + 4, [⟨1, T.length + 4, 0, false, [99]⟩]⟩, ⟨0, T.length + 5, []⟩] := by
  have hp : parts ((40 :: (T ++ 41 :: subR)).length + 1) 36 (40 :: (T ++ 41 :: subR)) = .ok ([⟨4, 0, 0, false, T⟩], subR) := by
    rw [parts.eq_def, if_neg (by decide), if_neg (by decide), if_neg (by decide), if_pos (dolB_sub _), dol_sub _ T subR h, List.length_cons, Nat.sub_self]
  have hw : word ((40 :: (T ++ 41 :: subR)).length + 1) ((40 :: (T ++ 41 :: subR)).length + 1) (36 :: 40 :: (T ++ 41 :: subR)) = .ok ([⟨4, 0, 0, false, T⟩], [32, 99]) := by
    rw [word_ok _ _ 36 _ (by decide) _ _ hp, word_end _ _ subR subR_end]
    rfl
  rw [lex_two (Or.inr rfl) (by decide) (by decide) (by simp [subR]) hw]
  simp [subR]
theorem sub_quot (T : List UInt8) (h : Bal T) : lexL (34 :: 36 :: 40 :: (T ++ 41 :: 34 :: subR)) = .ok [⟨13, 0, [⟨2, 0, 0, false, []⟩, ⟨4, 1, 0, true, T⟩]⟩, ⟨13, T.length + 6, [⟨1, T.length + 6, 0, false, [99]⟩]⟩, ⟨0, T.length + 7, []⟩] := by
  have hq : quoted ((36 :: 40 :: (T ++ 41 :: 34 :: subR)).length + 1) (36 :: 40 :: (T ++ 41 :: 34 :: subR)) = .ok (⟨4, 1, 0, true, T⟩, 34 :: subR) := by
    rw [quoted, if_pos (dolB_sub _), dol_sub _ T (34 :: subR) h]
    simp only [quo, List.length_cons]
    rw [show (T ++ 41 :: 34 :: subR).length + 1 + 1 + 1 - ((T ++ 41 :: 34 :: subR).length + 2) = 1 by omega]
  have hp : parts ((36 :: 40 :: (T ++ 41 :: 34 :: subR)).length + 1) 34 (36 :: 40 :: (T ++ 41 :: 34 :: subR)) = .ok ([⟨2, 0, 0, false, []⟩, ⟨4, 1, 0, true, T⟩], subR) := by
    rw [parts.eq_def, if_neg (by decide), if_neg (by decide), if_pos rfl, Nat.sub_self, dead_stop _ _ _ (Or.inr (dolB_sub _)), List.length_cons, dbl, if_neg (by decide), ← List.length_cons (a := (36 : UInt8)), hq]
    simp only [List.length_cons, dbl, if_true]
  have hw : word ((36 :: 40 :: (T ++ 41 :: 34 :: subR)).length + 1) ((36 :: 40 :: (T ++ 41 :: 34 :: subR)).length + 1) (34 :: 36 :: 40 :: (T ++ 41 :: 34 :: subR)) = .ok ([⟨2, 0, 0, false, []⟩, ⟨4, 1, 0, true, T⟩], [32, 99]) := by
    rw [word_ok _ _ 34 _ (by decide) _ _ hp, word_end _ _ subR subR_end]
    rfl
  rw [lex_two (Or.inr rfl) (by decide) (by decide) (by simp [subR]) hw]
  simp [subR]
theorem sub_bare_no (T : List UInt8) (h : Bal T) : lexL (36 :: 40 :: T) = .error ⟨1, 0⟩ := by
  refine lex_word_err (by decide) (by decide) (word_err _ _ 36 _ (by decide) _ ?_)
  rw [parts.eq_def, if_neg (by decide), if_neg (by decide), if_neg (by decide), if_pos (dolB_sub _), dol_sub_no _ T h, List.length_cons, Nat.sub_self]
theorem sub_quot_no (T : List UInt8) (h : Bal T) : lexL (34 :: 36 :: 40 :: T) = .error ⟨1, 1⟩ := by
  refine lex_word_err (by decide) (by decide) (word_err _ _ 34 _ (by decide) _ ?_)
  have hq : quoted ((36 :: 40 :: T).length + 1) (36 :: 40 :: T) = .error ⟨1, 1⟩ := by
    rw [quoted, if_pos (dolB_sub _), dol_sub_no _ T h]
    simp only [List.length_cons]
    rw [show T.length + 1 + 1 + 1 - (T.length + 2) = 1 by omega]
  rw [parts.eq_def, if_neg (by decide), if_neg (by decide), if_pos rfl, Nat.sub_self, dead_stop _ _ _ (Or.inr (dolB_sub _)), List.length_cons, dbl, if_neg (by decide), ← List.length_cons (a := (36 : UInt8)), hq]
end Go.Proofs.YtlbdecohmjpgaaaDoor
