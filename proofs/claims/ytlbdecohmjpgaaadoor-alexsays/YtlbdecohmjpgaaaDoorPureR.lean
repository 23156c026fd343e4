/- Plain: a word's parts, byte by byte, as the document takes them. -/
import Derived.Test.YtlbdecohmjpgaaaDoorRd19
import Derived.Test.YtlbdecohmjpgaaaDoorPureN
namespace Go.Proofs.YtlbdecohmjpgaaaDoor

theorem drop_le (l : List UInt8) (n : Nat) : (l.drop n).length ≤ l.length := by rw [List.length_drop]; omega
theorem dead_two : ∀ (f g : Nat) (l : List UInt8), l.length ≤ f → l.length ≤ g → dead f l = dead g l := by
  intro f
  induction f with
  | zero => intro g l h _; rw [List.eq_nil_of_length_eq_zero (Nat.le_zero.1 h), dead_nil, dead_nil]
  | succ f ih =>
    intro g l h hg
    cases l with
    | nil => rw [dead_nil, dead_nil]
    | cons c t =>
      simp only [List.length_cons] at h hg
      obtain ⟨g, rfl⟩ : ∃ g', g = g' + 1 := ⟨g - 1, by omega⟩
      by_cases hs : c = 34 ∨ dolB (c :: t) = true
      · rw [dead_stop _ _ _ hs, dead_stop _ _ _ hs]
      · have h1 := dByte_ge (c :: t) (by simp)
        have h2 : ((c :: t).drop (dByte (c :: t)).2).length ≤ t.length := by rw [List.length_drop, List.length_cons]; omega
        rw [dead_more _ _ _ hs, dead_more _ _ _ hs, ih g _ (by omega) (by omega)]
theorem dead_fuel (f : Nat) (l : List UInt8) (h : l.length ≤ f) : dead f l = dead l.length l := dead_two f _ l h (Nat.le_refl _)
theorem parts_lt {N : Nat} {c : UInt8} {t : List UInt8} {ps : List Pt} {u : List UInt8} (hN : t.length + 1 ≤ N) (hw : wEnd c = false) (h : parts N c t = .ok (ps, u)) : u.length ≤ t.length := (parts_ok hN hw h).2.1
theorem word_two {N : Nat} : ∀ (f g : Nat) (l : List UInt8), l.length ≤ f → l.length ≤ g → l.length ≤ N → word N f l = word N g l := by
  intro f
  induction f with
  | zero => intro g l h _ _; rw [List.eq_nil_of_length_eq_zero (Nat.le_zero.1 h), word_end _ _ _ (Or.inl rfl), word_end _ _ _ (Or.inl rfl)]
  | succ f ih =>
    intro g l h hg hN
    cases l with
    | nil => rw [word_end _ _ _ (Or.inl rfl), word_end _ _ _ (Or.inl rfl)]
    | cons c t =>
      simp only [List.length_cons] at h hg hN
      obtain ⟨g, rfl⟩ : ∃ g', g = g' + 1 := ⟨g - 1, by omega⟩
      cases hw : wEnd c with
      | true => rw [word_end _ _ _ (Or.inr ⟨c, t, rfl, hw⟩), word_end _ _ _ (Or.inr ⟨c, t, rfl, hw⟩)]
      | false =>
        cases hp : parts N c t with
        | error e => rw [word_err N f c t hw e hp, word_err N g c t hw e hp]
        | ok q =>
          obtain ⟨ps, u⟩ := q
          have hu : u.length ≤ t.length := parts_lt hN hw hp
          rw [word_ok N f c t hw ps u hp, word_ok N g c t hw ps u hp, ih g u (by omega) (by omega) (by omega)]
theorem word_fuel {N : Nat} (f : Nat) (l : List UInt8) (h : l.length ≤ f) (hN : l.length ≤ N) : word N f l = word N l.length l := word_two f _ l h (Nat.le_refl _) hN
/-- A word from here on. -/
def wordX (N : Nat) (l : List UInt8) : Except Er (List Pt × List UInt8) := word N l.length l
theorem wordX_of {N f : Nat} {l : List UInt8} (h : l.length ≤ f) (hN : l.length ≤ N) : word N f l = wordX N l := word_fuel f l h hN
/-- Bytes that are a part, or go on with the last one. -/
def textP (X : List Pt) (kd a : Nat) (t : List UInt8) : List Pt := match X.getLast? with
  | some q => if q.kind = kd then X.dropLast ++ [⟨q.kind, q.pos, q.n, q.quoted, q.s ++ t⟩] else X ++ [⟨kd, a, 0, false, t⟩]
  | none => X ++ [⟨kd, a, 0, false, t⟩]
/-- Parts so far, with the living text that stands here. -/
def glue (N : Nat) (X : List Pt) (l : List UInt8) : List Pt := if liv l = [] then X else textP X 1 (N - l.length) (liv l)
def fin (N : Nat) (X : List Pt) (l : List UInt8) : Except Er (List Pt × List UInt8) := preR (glue N X l) (wordX N (l.drop (liv l).length))
theorem textP_new {X : List Pt} {kd a : Nat} {t : List UInt8} (h : ∀ q, X.getLast? = some q → q.kind ≠ kd) : textP X kd a t = X ++ [⟨kd, a, 0, false, t⟩] := by
  unfold textP
  cases hl : X.getLast? with
  | none => rfl
  | some q => simp only [if_neg (h q hl)]
theorem textP_on {Y : List Pt} {p : Pt} {kd a : Nat} {t : List UInt8} (h : p.kind = kd) : textP (Y ++ [p]) kd a t = Y ++ [⟨p.kind, p.pos, p.n, p.quoted, p.s ++ t⟩] := by
  unfold textP
  simp [h]
theorem livB {N : Nat} {c : UInt8} {t : List UInt8} (hw : wEnd c = false) (h1 : c ≠ 92) (h2 : c ≠ 39) (h3 : c ≠ 34) (h4 : dolB (c :: t) = false) : liv (c :: t) = c :: liv t ∧ parts N c t = .ok ([⟨1, N - (t.length + 1), 0, false, c :: liv t⟩], t.drop (liv t).length) := by
  have hl : liv (c :: t) = c :: liv t := by rw [liv, if_neg (by rw [tEnd_of hw h1 h2 h3, h4]; simp)]
  refine ⟨hl, ?_⟩
  rw [parts.eq_def, if_neg h1, if_neg h2, if_neg h3, if_neg (by rw [h4]; simp), hl]
  simp
theorem fin_nil {N : Nat} {l : List UInt8} (hN : l.length ≤ N) : fin N [] l = wordX N l := by
  unfold fin glue
  by_cases hl : liv l = []
  · rw [if_pos hl, hl]
    simp only [List.length_nil, List.drop_zero]
    cases wordX N l with
    | error e => rfl
    | ok q => simp [preR]
  · rw [if_neg hl]
    cases l with
    | nil => exact absurd rfl hl
    | cons c t =>
      have hne : ¬ (tEnd c || dolB (c :: t)) = true := fun e => hl (by rw [liv, if_pos e])
      rw [Bool.or_eq_true, not_or] at hne
      have hw : wEnd c = false := by
        cases h : wEnd c with
        | false => rfl
        | true =>
          rcases wEnd_cases h with rfl | rfl | rfl | rfl | rfl | rfl | rfl | rfl | rfl | rfl <;> exact absurd (by decide) hne.1
      have n1 : c ≠ 92 := by rintro rfl; exact absurd (by decide) hne.1
      have n2 : c ≠ 39 := by rintro rfl; exact absurd (by decide) hne.1
      have n3 : c ≠ 34 := by rintro rfl; exact absurd (by decide) hne.1
      obtain ⟨e1, e2⟩ := livB (N := N) hw n1 n2 n3 (by simpa using hne.2)
      have hd := drop_le t (liv t).length
      simp only [List.length_cons] at hN
      unfold wordX
      rw [e1, textP_new (by simp), List.length_cons, word_ok N _ c t hw _ _ e2]
      simp only [List.length_cons, List.drop_succ_cons, List.nil_append]
      rw [word_fuel t.length _ (by omega) (by omega)]
/-- A living byte. -/
theorem fin_byte {N : Nat} {X : List Pt} {c : UInt8} {t : List UInt8} (hw : wEnd c = false) (h1 : c ≠ 92) (h2 : c ≠ 39) (h3 : c ≠ 34) (h4 : dolB (c :: t) = false) : fin N X (c :: t) = fin N (textP X 1 (N - (t.length + 1)) [c]) t := by
  obtain ⟨e1, _⟩ := livB (N := N) hw h1 h2 h3 h4
  have key : textP X 1 (N - (t.length + 1)) (c :: liv t) = glue N (textP X 1 (N - (t.length + 1)) [c]) t := by
    unfold glue
    rcases List.eq_nil_or_concat X with rfl | ⟨Y, p, rfl⟩
    · rw [textP_new (by simp), textP_new (by simp)]
      by_cases hl : liv t = []
      · rw [if_pos hl, hl]
      · rw [if_neg hl, List.nil_append, List.nil_append]
        exact (textP_on (Y := []) (p := ⟨1, N - (t.length + 1), 0, false, [c]⟩) rfl).symm
    · rw [List.concat_eq_append]
      by_cases hp : p.kind = 1
      · rw [textP_on hp, textP_on hp]
        by_cases hl : liv t = []
        · rw [if_pos hl, hl]
        · rw [if_neg hl, textP_on (p := ⟨p.kind, p.pos, p.n, p.quoted, p.s ++ [c]⟩) hp]
          simp
      · have hq : ∀ q, (Y ++ [p]).getLast? = some q → q.kind ≠ 1 := by
          intro q hq
          simp at hq
          rw [← hq]; exact hp
        rw [textP_new hq, textP_new hq]
        by_cases hl : liv t = []
        · rw [if_pos hl, hl]
        · rw [if_neg hl, textP_on (p := ⟨1, N - (t.length + 1), 0, false, [c]⟩) rfl]
          rfl
  unfold fin
  rw [← key]
  unfold glue
  rw [e1, if_neg (by simp), List.length_cons, List.length_cons, List.drop_succ_cons]
/-- Other parts. -/
theorem fin_parts {N : Nat} {X ps : List Pt} {c : UInt8} {t u : List UInt8} (hw : wEnd c = false) (hl : liv (c :: t) = []) (hp : parts N c t = .ok (ps, u)) (hk : ∀ q, ps.getLast? = some q → q.kind ≠ 1) (hne : ps ≠ []) (hN : t.length + 1 ≤ N) : fin N X (c :: t) = fin N (X ++ ps) u := by
  have hu : u.length ≤ t.length := parts_lt hN hw hp
  have e1 : fin N X (c :: t) = preR (X ++ ps) (wordX N u) := by
    unfold fin glue
    rw [if_pos hl, hl]
    simp only [List.length_nil, List.drop_zero]
    unfold wordX
    rw [List.length_cons, word_ok N _ c t hw _ _ hp, preR_pre, word_fuel t.length u hu (by omega)]
  rw [e1, ← fin_nil (N := N) (l := u) (by omega)]
  unfold fin
  rw [preR_pre]
  congr 1
  unfold glue
  by_cases h0 : liv u = []
  · rw [if_pos h0, if_pos h0, List.append_nil]
  · rw [if_neg h0, if_neg h0, textP_new (by simp), textP_new ?_]
    · rfl
    · intro q hq
      rw [List.getLast?_append] at hq
      cases hg : ps.getLast? with
      | none => exact absurd (List.getLast?_eq_none_iff.1 hg) hne
      | some r =>
        rw [hg] at hq
        simp at hq
        rw [← hq]
        exact hk r hg
theorem fin_err {N : Nat} {X : List Pt} {c : UInt8} {t : List UInt8} {x : Er} (hw : wEnd c = false) (hl : liv (c :: t) = []) (hp : parts N c t = .error x) : fin N X (c :: t) = .error x := by
  unfold fin glue
  rw [if_pos hl, hl]
  simp only [List.length_nil, List.drop_zero]
  unfold wordX
  rw [List.length_cons, word_err N _ c t hw x hp]
  rfl
theorem fin_end {N : Nat} {X : List Pt} {l : List UInt8} (h : l = [] ∨ ∃ c t, l = c :: t ∧ wEnd c = true) : fin N X l = .ok (X, l) := by
  have hl : liv l = [] := by
    rcases h with rfl | ⟨c, t, rfl, hw⟩
    · rfl
    · rw [liv, if_pos]
      rcases wEnd_cases hw with rfl | rfl | rfl | rfl | rfl | rfl | rfl | rfl | rfl | rfl <;> rfl
  unfold fin glue
  rw [if_pos hl, hl]
  simp only [List.length_nil, List.drop_zero]
  unfold wordX
  rw [word_end _ _ _ h]
  simp [preR]
/-! ### between double quotes -/
def finD (N a : Nat) (on : Bool) (Y : List Pt) (g : Nat) (l : List UInt8) : Except Er (List Pt × List UInt8) :=
  if on then preR (textP Y 2 0 (dead l.length l).1) (dbl N a g (dead l.length l).2) else preR Y (dbl N a g l)
theorem textP_self (Y : List Pt) (p : Pt) (h : p.kind = 2) (a : Nat) : textP (Y ++ [p]) 2 a [] = Y ++ [p] := by
  rw [textP_on h]
  simp
theorem parts_dq {N : Nat} {t : List UInt8} : parts N 34 t = dblR N (N - (t.length + 1)) t := by
  rw [parts.eq_def, if_neg (by decide), if_neg (by decide), if_pos rfl]
  unfold dblR
  cases dbl N (N - (t.length + 1)) (t.length + 1) (dead t.length t).2 with
  | error e => rfl
  | ok q => rfl
theorem finD_start (N a : Nat) (X : List Pt) (t : List UInt8) : preR X (dblR N a t) = finD N a true (X ++ [⟨2, a, 0, false, []⟩]) (t.length + 1) t := by
  unfold dblR finD
  rw [if_pos rfl, preR_pre, textP_on rfl]
  rfl
theorem finD_nil (N a g : Nat) (on : Bool) (Y : List Pt) : finD N a on Y g [] = .error ⟨2, a⟩ := by
  unfold finD
  split
  · rw [dead_nil, dbl_nil]; rfl
  · rw [dbl_nil]; rfl
/-- The last part goes on. -/
def OnP (on : Bool) (Y : List Pt) : Prop := on = true → ∃ Z p, Y = Z ++ [p] ∧ p.kind = 2
theorem finD_quote {N a g : Nat} {on : Bool} {Y : List Pt} {t : List UInt8} (h : OnP on Y) : finD N a on Y (g + 1) (34 :: t) = .ok (Y, t) := by
  unfold finD
  split
  · rename_i ho
    obtain ⟨Z, p, rfl, hp⟩ := h ho
    rw [dead_stop _ _ _ (Or.inl rfl), textP_self Z p hp, dbl_quote]
    simp [preR]
  · rw [dbl_quote]
    simp [preR]
theorem finD_dol {N a g : Nat} {on : Bool} {Y : List Pt} {c : UInt8} {t : List UInt8} (h : OnP on Y) (hd : dolB (c :: t) = true) : finD N a on Y g (c :: t) = preR Y (dbl N a g (c :: t)) := by
  unfold finD
  split
  · rename_i ho
    obtain ⟨Z, p, rfl, hp⟩ := h ho
    rw [dead_stop _ _ _ (Or.inr hd), textP_self Z p hp]
  · rfl
theorem finD_ok {N a g : Nat} {on : Bool} {Y : List Pt} {c : UInt8} {t u : List UInt8} {p : Pt} (h : OnP on Y) (hc : c ≠ 34) (hd : dolB (c :: t) = true) (hp : dollar N (c :: t) = .ok (p, u)) : finD N a on Y (g + 1) (c :: t) = finD N a false (Y ++ [quo p]) g u := by
  have hq : quoted N (c :: t) = .ok (quo p, u) := by rw [quoted, if_pos hd, hp]
  rw [finD_dol h hd, dbl_ok _ _ _ _ _ hc _ _ hq, preR_pre]
  rfl
theorem finD_err {N a g : Nat} {on : Bool} {Y : List Pt} {c : UInt8} {t : List UInt8} {x : Er} (h : OnP on Y) (hc : c ≠ 34) (hd : dolB (c :: t) = true) (hp : dollar N (c :: t) = .error x) : finD N a on Y (g + 1) (c :: t) = .error x := by
  have hq : quoted N (c :: t) = .error x := by rw [quoted, if_pos hd, hp]
  rw [finD_dol h hd, dbl_err _ _ _ _ _ hc _ hq]
  rfl
theorem dead_step {c : UInt8} {t : List UInt8} (hc : c ≠ 34) (hd : dolB (c :: t) = false) : dead (c :: t).length (c :: t) = ((dByte (c :: t)).1 ++ (dead ((c :: t).drop (dByte (c :: t)).2).length ((c :: t).drop (dByte (c :: t)).2)).1, (dead ((c :: t).drop (dByte (c :: t)).2).length ((c :: t).drop (dByte (c :: t)).2)).2) := by
  have h1 := dByte_ge (c :: t) (by simp)
  have h2 : ((c :: t).drop (dByte (c :: t)).2).length ≤ t.length := by rw [List.length_drop, List.length_cons]; omega
  rw [List.length_cons, dead_more _ _ _ (by rw [hd]; simp [hc]), dead_fuel t.length _ h2]
theorem finD_on {N a g : Nat} {Z : List Pt} {p : Pt} {c : UInt8} {t : List UInt8} (hp : p.kind = 2) (hc : c ≠ 34) (hd : dolB (c :: t) = false) : finD N a true (Z ++ [p]) g (c :: t) = finD N a true (Z ++ [⟨p.kind, p.pos, p.n, p.quoted, p.s ++ (dByte (c :: t)).1⟩]) g ((c :: t).drop (dByte (c :: t)).2) := by
  unfold finD
  rw [if_pos rfl, if_pos rfl, dead_step hc hd, textP_on hp, textP_on (p := ⟨p.kind, p.pos, p.n, p.quoted, p.s ++ (dByte (c :: t)).1⟩) hp]
  simp
theorem finD_off {N a g : Nat} {Y : List Pt} {c : UInt8} {t : List UInt8} (hc : c ≠ 34) (hd : dolB (c :: t) = false) : finD N a false Y (g + 1) (c :: t) = finD N a true (Y ++ [⟨2, N - (t.length + 1), 0, false, (dByte (c :: t)).1⟩]) g ((c :: t).drop (dByte (c :: t)).2) := by
  have hq : quoted N (c :: t) = .ok (⟨2, N - (t.length + 1), 0, false, (dead (c :: t).length (c :: t)).1⟩, (dead (c :: t).length (c :: t)).2) := by rw [quoted, if_neg (by rw [hd]; simp)]; rfl
  unfold finD
  rw [if_pos rfl, if_neg (by simp), dbl_ok _ _ _ _ _ hc _ _ hq, preR_pre, dead_step hc hd, textP_on rfl]
/-- Where a word's other parts begin there is no living text. -/
theorem liv_no {c : UInt8} {t : List UInt8} (h : c = 92 ∨ c = 39 ∨ c = 34 ∨ dolB (c :: t) = true) : liv (c :: t) = [] := by
  rw [liv, if_pos]
  rcases h with rfl | rfl | rfl | h
  · rfl
  · rfl
  · rfl
  · rw [h]; simp
end Go.Proofs.YtlbdecohmjpgaaaDoor
