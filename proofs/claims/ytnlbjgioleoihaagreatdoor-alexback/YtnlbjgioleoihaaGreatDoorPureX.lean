/- Plain: what is printed is read back, flat as it was. -/
import Derived.Test.YtnlbjgioleoihaaGreatDoorPureW
namespace Go.Proofs.YtnlbjgioleoihaaGreatDoor

def strip (p : Pt) : Pt := ⟨p.kind, 0, p.n, p.quoted, p.s⟩
def isTx (k : Nat) : Bool := k == 1 || k == 2
/-- One more part behind others, texts of one kind as one, empty ones left out. -/
def fStep (out : List Pt) (p : Pt) : List Pt :=
  if isTx p.kind && p.s.isEmpty then out
  else match out.getLast? with
    | some q => if isTx p.kind && q.kind == p.kind then out.dropLast ++ [⟨q.kind, q.pos, q.n, q.quoted, q.s ++ p.s⟩] else out ++ [p]
    | none => out ++ [p]
def flatS (out ps : List Pt) : List Pt := (ps.map strip).foldl fStep out
theorem flatS_app (out a b : List Pt) : flatS out (a ++ b) = flatS (flatS out a) b := by
  unfold flatS
  rw [List.map_append, List.foldl_append]
abbrev dT (s : List UInt8) : Pt := ⟨2, 0, 0, false, s⟩
theorem fStep_nil (out : List Pt) : fStep out (dT []) = out := rfl
theorem fStep_on (out : List Pt) (q : Pt) (s : List UInt8) (hs : s ≠ []) (hq : q.kind = 2) : fStep (out ++ [q]) (dT s) = out ++ [⟨q.kind, q.pos, q.n, q.quoted, q.s ++ s⟩] := by
  have he : s.isEmpty = false := by cases s with
    | nil => exact absurd rfl hs
    | cons c t => rfl
  unfold fStep
  rw [he]
  simp [isTx, hq]
theorem fStep_new (out : List Pt) (s : List UInt8) (hs : s ≠ []) (hq : ∀ q, out.getLast? = some q → q.kind ≠ 2) : fStep out (dT s) = out ++ [dT s] := by
  have he : s.isEmpty = false := by cases s with
    | nil => exact absurd rfl hs
    | cons c t => rfl
  unfold fStep
  rw [he]
  cases hl : out.getLast? with
  | none => simp
  | some q =>
    have := hq q hl
    simp [isTx, this]
theorem fStep_two (out : List Pt) (a b : List UInt8) : fStep (fStep out (dT a)) (dT b) = fStep out (dT (a ++ b)) := by
  by_cases ha : a = []
  · rw [ha, fStep_nil]; rfl
  · by_cases hb : b = []
    · rw [hb, fStep_nil, List.append_nil]
    · have hab : a ++ b ≠ [] := by simp [ha]
      by_cases hq : ∀ q, out.getLast? = some q → q.kind ≠ 2
      · rw [fStep_new out a ha hq, fStep_on out (dT a) b hb rfl, fStep_new out (a ++ b) hab hq]
      · have ⟨q, h1, h2⟩ : ∃ q, out.getLast? = some q ∧ q.kind = 2 := by
          simpa using hq
        obtain ⟨o, rfl⟩ := List.getLast?_eq_some_iff.1 h1
        rw [fStep_on o q a ha h2, fStep_on o ⟨q.kind, q.pos, q.n, q.quoted, q.s ++ a⟩ b hb h2, fStep_on o q (a ++ b) hab h2]
        simp
/-- What is printed of a part is read as parts that are flat as it is. -/
def Piece (N : Nat) (p : Pt) (r v : List UInt8) : Prop := ∃ qs, (∀ out, flatS out qs = flatS out [p]) ∧ ∀ f, (prPt p ++ r).length ≤ f → ∃ f', r.length ≤ f' ∧ ∀ R, word N f' r = .ok (R, v) → word N f (prPt p ++ r) = .ok (qs ++ R, v)
theorem piece_one {N : Nat} {p : Pt} {r v : List UInt8} {c : UInt8} {t : List UInt8} {qs : List Pt} (he : prPt p ++ r = c :: t) (hr : r.length ≤ t.length) (hw : wEnd c = false) (hp : parts N c t = .ok (qs, r)) (hf : ∀ out, flatS out qs = flatS out [p]) : Piece N p r v := by
  refine ⟨qs, hf, fun f hl => ?_⟩
  rw [he] at hl ⊢
  rw [List.length_cons] at hl
  obtain ⟨f, rfl⟩ : ∃ f', f = f' + 1 := ⟨f - 1, by omega⟩
  refine ⟨f, by omega, fun R hR => ?_⟩
  rw [word_ok N f c t hw _ _ hp, hR]
  rfl
theorem dead_piece (N : Nat) (r v : List UInt8) : ∀ (n : Nat) (s : List UInt8), s.length ≤ n → ∃ qs, (∀ out, flatS out qs = fStep out (dT s)) ∧ ∀ f, (39 :: (escS s ++ 39 :: r)).length ≤ f → ∃ f', r.length ≤ f' ∧ ∀ R, word N f' r = .ok (R, v) → word N f (39 :: (escS s ++ 39 :: r)) = .ok (qs ++ R, v) := by
  have one : ∀ s : List UInt8, (39 : UInt8) ∉ s → ∃ qs, (∀ out, flatS out qs = fStep out (dT s)) ∧ ∀ f, (39 :: (escS s ++ 39 :: r)).length ≤ f → ∃ f', r.length ≤ f' ∧ ∀ R, word N f' r = .ok (R, v) → word N f (39 :: (escS s ++ 39 :: r)) = .ok (qs ++ R, v) := fun s h => by
    have hp : parts N 39 (s ++ 39 :: r) = .ok ([⟨2, N - ((s ++ 39 :: r).length + 1), 0, false, s⟩], r) := by
      rw [parts.eq_def, if_neg (by decide), if_pos rfl, pSing_at s r h]
      simp only [take_at]
    refine ⟨[⟨2, N - ((s ++ 39 :: r).length + 1), 0, false, s⟩], fun out => rfl, fun f hf => ?_⟩
    rw [escS_none s h] at hf ⊢
    simp only [List.length_cons, List.length_append] at hf
    obtain ⟨f, rfl⟩ : ∃ f', f = f' + 1 := ⟨f - 1, by omega⟩
    refine ⟨f, by omega, fun R hR => ?_⟩
    rw [word_ok N f 39 _ (by decide) _ _ hp, hR]
    rfl
  intro n
  induction n with
  | zero =>
    intro s hs
    obtain rfl := List.eq_nil_of_length_eq_zero (Nat.le_zero.1 hs)
    exact one [] (by simp)
  | succ n ih =>
    intro s hs
    rcases cut39 s with h | ⟨a, b, h1, rfl⟩
    · exact one s h
    · have he : escS (a ++ 39 :: b) ++ 39 :: r = a ++ 39 :: (92 :: 39 :: (39 :: (escS b ++ 39 :: r))) := by
        rw [escS_app, escS_none a h1, escS, if_pos rfl]
        simp
      have hp : parts N 39 (a ++ 39 :: (92 :: 39 :: (39 :: (escS b ++ 39 :: r)))) = .ok ([⟨2, N - ((a ++ 39 :: (92 :: 39 :: (39 :: (escS b ++ 39 :: r)))).length + 1), 0, false, a⟩], 92 :: 39 :: (39 :: (escS b ++ 39 :: r))) := by
        rw [parts.eq_def, if_neg (by decide), if_pos rfl, pSing_at a _ h1]
        simp only [take_at]
      have hp2 : parts N 92 (39 :: (39 :: (escS b ++ 39 :: r))) = .ok ([⟨2, N - ((39 :: (39 :: (escS b ++ 39 :: r))).length + 1), 0, false, [39]⟩], 39 :: (escS b ++ 39 :: r)) := by
        rw [parts, if_pos rfl]
        rfl
      simp only [List.length_cons, List.length_append] at hs
      obtain ⟨qs, hq, hw⟩ := ih b (by omega)
      refine ⟨⟨2, N - ((a ++ 39 :: (92 :: 39 :: (39 :: (escS b ++ 39 :: r)))).length + 1), 0, false, a⟩ :: ⟨2, N - ((39 :: (39 :: (escS b ++ 39 :: r))).length + 1), 0, false, [39]⟩ :: qs, fun out => ?_, fun f hf => ?_⟩
      · show flatS (fStep (fStep out (dT a)) (dT [39])) qs = _
        rw [hq, fStep_two, fStep_two]
        rfl
      · rw [he] at hf ⊢
        simp only [List.length_cons, List.length_append] at hf
        obtain ⟨f, rfl⟩ : ∃ f', f = f' + 1 + 1 := ⟨f - 2, by omega⟩
        obtain ⟨f', k1, k2⟩ := hw f (by simp only [List.length_cons, List.length_append]; omega)
        refine ⟨f', k1, fun R hR => ?_⟩
        rw [word_ok N _ 39 _ (by decide) _ _ hp, word_ok N _ 92 _ (by decide) _ _ hp2, k2 R hR]
        rfl
theorem name_isNB {s : List UInt8} (h : nameB s = true) : s.all isNB = true := by
  cases s with
  | nil => rfl
  | cons c t =>
    rw [nameB, Bool.and_eq_true, Bool.and_eq_true] at h
    have h2 : (c :: t).all cont8 = true := h.2.2
    rw [List.all_eq_true] at h2 ⊢
    intro x hx
    have := h2 x hx
    simp only [isNB, bne_iff_ne, ne_eq]
    rintro rfl
    exact absurd this (by decide)
theorem num_byte (n : Nat) (h1 : 1 ≤ n) (h9 : n ≤ 9) : cnts (UInt8.ofNat (48 + n)) = true ∧ (UInt8.ofNat (48 + n)).toNat - 48 = n ∧ UInt8.ofNat (48 + n) ≠ 40 ∧ UInt8.ofNat (48 + n) ≠ 123 ∧ UInt8.ofNat (48 + n) ≠ 42 ∧ UInt8.ofNat (48 + n) ≠ 35 := by
  obtain rfl | rfl | rfl | rfl | rfl | rfl | rfl | rfl | rfl : n = 1 ∨ n = 2 ∨ n = 3 ∨ n = 4 ∨ n = 5 ∨ n = 6 ∨ n = 7 ∨ n = 8 ∨ n = 9 := by omega
  all_goals decide
theorem dollar_back {p : Pt} (h : GP p) (h3 : 3 ≤ p.kind) (N : Nat) (r : List UInt8) : ∃ a t, prDol p ++ r = 36 :: t ∧ r.length ≤ t.length ∧ dolB (36 :: t) = true ∧ dollar N (36 :: t) = .ok (⟨p.kind, a, p.n, false, p.s⟩, r) := by
  cases h with
  | txt a s => simp at h3
  | dead a s => simp at h3
  | star a q =>
    refine ⟨N - (r.length + 2), 42 :: r, rfl, by simp, rfl, ?_⟩
    rw [dollar, if_neg (by decide), if_neg (by decide), if_pos rfl]
  | var a q s h =>
    have e : prDol ⟨3, a, 0, q, s⟩ ++ r = 36 :: 123 :: (s ++ 125 :: r) := by rw [prDol_var h]; simp
    have hn : (s ++ 125 :: r).takeWhile isNB = s := take_run s 125 r (name_isNB h) (by decide)
    refine ⟨N - ((s ++ 125 :: r).length + 2), _, e, by simp; omega, rfl, ?_⟩
    rw [dollar, if_neg (by decide), if_pos rfl, hn, if_pos (by simp), varR, if_pos h]
    simp
  | sub a q s h =>
    have e : prDol ⟨4, a, 0, q, s⟩ ++ r = 36 :: 40 :: (s ++ 41 :: r) := by
      show (36 :: 40 :: (s ++ [41])) ++ r = _
      simp
    refine ⟨N - ((s ++ 41 :: r).length + 2), _, e, by simp; omega, rfl, ?_⟩
    rw [dollar, if_pos rfl, h _ r (by omega)]
    simp only [take_at]
  | num a n q h1 h9 =>
    obtain ⟨n1, n2, n3, n4, n5, n6⟩ := num_byte n h1 h9
    refine ⟨N - (r.length + 2), UInt8.ofNat (48 + n) :: r, rfl, by simp, ?_, ?_⟩
    · rw [dolB, dolC, n1]; simp
    · rw [dollar, if_neg n3, if_neg n4, if_neg n5, if_neg n6, if_pos n1, n2]
  | many a q =>
    refine ⟨N - (r.length + 2), 35 :: r, rfl, by simp, rfl, ?_⟩
    rw [dollar, if_neg (by decide), if_neg (by decide), if_neg (by decide), if_pos rfl]
theorem tEnd_not {c : UInt8} (h : tEnd c = false) : wEnd c = false ∧ c ≠ 92 ∧ c ≠ 39 ∧ c ≠ 34 := by
  refine ⟨?_, ?_, ?_, ?_⟩
  · simp [tEnd] at h
    simp [wEnd, h]
  all_goals (rintro rfl; exact absurd h (by decide))
/-- Every part. -/
theorem piece_any {p : Pt} (h : GP p) (N : Nat) (r v : List UInt8) (hn : p.kind = 1 → Nx r) : Piece N p r v := by
  by_cases h3 : 3 ≤ p.kind
  · by_cases hq : p.quoted = true
    · obtain ⟨a, t, e1, e2, e3, e4⟩ := dollar_back h h3 N (34 :: r)
      have hne : (prDol p).isEmpty = false := by
        cases hx : prDol p with
        | nil => rw [hx] at e1; cases e1
        | cons c t => rfl
      have e : prPt p ++ r = 34 :: 36 :: t := by
        unfold prPt
        rw [if_neg (by omega), if_neg (by omega), hq, hne, ← e1]
        simp
      have hd : dead (36 :: t).length (36 :: t) = ([], 36 :: t) := by
        rw [List.length_cons, dead, if_pos (.inr e3)]
      have hqt : quoted N (36 :: t) = .ok (⟨p.kind, a, p.n, true, p.s⟩, 34 :: r) := by
        rw [quoted, if_pos e3, e4]
        rfl
      have hp : parts N 34 (36 :: t) = .ok ([⟨2, N - ((36 :: t).length + 1), 0, false, []⟩, ⟨p.kind, a, p.n, true, p.s⟩], r) := by
        rw [parts.eq_def, if_neg (by decide), if_neg (by decide), if_pos rfl, hd]
        simp only
        rw [dbl_ok _ _ _ _ _ (by decide) _ _ hqt, List.length_cons, dbl_quote]
        rfl
      refine piece_one e ?_ (by decide) hp (fun out => ?_)
      · rw [List.length_cons] at e2 ⊢; omega
      · show fStep (fStep out (dT [])) ⟨p.kind, 0, p.n, true, p.s⟩ = fStep out (strip p)
        rw [fStep_nil, ← hq]
        rfl
    · have hq' : p.quoted = false := by simpa using hq
      obtain ⟨a, t, e1, e2, e3, e4⟩ := dollar_back h h3 N r
      have hp : parts N 36 t = .ok ([⟨p.kind, a, p.n, false, p.s⟩], r) := by
        rw [parts.eq_def, if_neg (by decide), if_neg (by decide), if_neg (by decide), if_pos e3, e4]
      refine piece_one (by rw [prPt_dol h3 hq']; exact e1) e2 (by decide) hp (fun out => ?_)
      show fStep out ⟨p.kind, 0, p.n, false, p.s⟩ = fStep out (strip p)
      rw [← hq']
      rfl
  · cases h with
    | txt a s h hl =>
      have hb := liv_back s r (hn rfl)
      rw [hl] at hb
      cases s with
      | nil => exact absurd rfl h
      | cons c s =>
        rw [List.cons_append] at hb
        have hc : ¬ (tEnd c || dolB (c :: (s ++ r))) = true := fun e => by
          rw [liv, if_pos e] at hb
          cases hb
        have hc' : tEnd c = false ∧ dolB (c :: (s ++ r)) = false := by simpa using hc
        obtain ⟨k1, k2, k3, k4⟩ := tEnd_not hc'.1
        have hp : parts N c (s ++ r) = .ok ([⟨1, N - ((s ++ r).length + 1), 0, false, c :: s⟩], r) := by
          rw [parts.eq_def, if_neg k2, if_neg k3, if_neg k4, if_neg (by rw [hc'.2]; simp), hb]
          simp
        exact piece_one rfl (by simp) k1 hp (fun out => rfl)
    | dead a s =>
      obtain ⟨qs, h1, h2⟩ := dead_piece N r v s.length s (Nat.le_refl _)
      have e : prPt ⟨2, a, 0, false, s⟩ ++ r = 39 :: (escS s ++ 39 :: r) := by
        rw [prPt_dead]; simp
      refine ⟨qs, fun out => h1 out, ?_⟩
      rw [e]
      exact h2
    | star a q => exact absurd (by simp) h3
    | var a q s h => exact absurd (by simp) h3
    | sub a q s h => exact absurd (by simp) h3
    | num a n q h1 h9 => exact absurd (by simp) h3
    | many a q => exact absurd (by simp) h3
theorem prW_next {ps : List Pt} (h : GW ps) (hk : ∀ q, ps.head? = some q → q.kind ≠ 1) {v : List UInt8} (hv : v = [] ∨ ∃ t, v = 32 :: t) : Nx (prW ps ++ v) := by
  cases h with
  | nil =>
    rcases hv with rfl | ⟨t, rfl⟩
    · exact .inl rfl
    · exact .inr ⟨32, t, rfl, .inl rfl⟩
  | @cons q ps g1 g2 g3 =>
    have hq := hk q rfl
    rw [prW, List.append_assoc]
    by_cases h3 : 3 ≤ q.kind
    · obtain ⟨a, t, e1, e2, e3, e4⟩ := dollar_back g1 h3 0 (prW ps ++ v)
      obtain ⟨a', t', e1', e2', e3', e4'⟩ := dollar_back g1 h3 0 (34 :: (prW ps ++ v))
      unfold prPt
      rw [if_neg (by omega), if_neg (by omega)]
      split
      · exact .inr ⟨34, _, rfl, .inr (.inr (.inl rfl))⟩
      · exact .inr ⟨36, t, e1, .inr (.inr (.inr ⟨rfl, e3⟩))⟩
    · cases g1 with
      | txt a s => exact absurd rfl hq
      | dead a s => exact .inr ⟨39, _, by rw [prPt_dead]; rfl, .inr (.inl rfl)⟩
      | star a q => exact absurd (by simp) h3
      | var a q s h => exact absurd (by simp) h3
      | sub a q s h => exact absurd (by simp) h3
      | num a n q h1 h9 => exact absurd (by simp) h3
      | many a q => exact absurd (by simp) h3
/-- A word that is printed is read back. -/
theorem word_back (N : Nat) {v : List UInt8} (hv : v = [] ∨ ∃ t, v = 32 :: t) : ∀ {ps : List Pt}, GW ps → ∃ qs, (∀ out, flatS out qs = flatS out ps) ∧ ∀ f, (prW ps ++ v).length ≤ f → word N f (prW ps ++ v) = .ok (qs, v) := by
  intro ps h
  induction h with
  | nil =>
    refine ⟨[], fun _ => rfl, fun f _ => ?_⟩
    exact word_end N f v (hv.imp id (fun ⟨t, e⟩ => ⟨32, t, e, by decide⟩))
  | @cons p ps g1 g2 g3 ih =>
    obtain ⟨q2, i1, i2⟩ := ih
    obtain ⟨qs, p1, p2⟩ := piece_any g1 N (prW ps ++ v) v (fun e => prW_next g3 (g2 e) hv)
    refine ⟨qs ++ q2, fun out => ?_, fun f hf => ?_⟩
    · rw [flatS_app, p1, i1, ← flatS_app]
      rfl
    · rw [prW, List.append_assoc] at hf ⊢
      obtain ⟨f', k1, k2⟩ := p2 f hf
      exact k2 _ (i2 f' k1)
end Go.Proofs.YtnlbjgioleoihaaGreatDoor
