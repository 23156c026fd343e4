/- Plain: the tokens one by one, as the document takes them. -/
import Derived.Test.YtddekcohfbnmbaaDoorPureP
import Derived.Test.YtddekcohfbnmbaaDoorPureC
import Derived.Test.YtddekcohfbnmbaaDoorRd9
namespace Go.Proofs.YtddekcohfbnmbaaDoor

def opsT : List (List UInt8) := [[60, 60, 60], [38, 38], [124, 124], [62, 62], [96, 123], [10], [59], [124], [40], [41], [123], [125], [60], [62], [94], [61], [33]]
def opsK : List Nat := [14, 3, 4, 13, 10, 1, 2, 5, 6, 7, 8, 9, 11, 12, 15, 16, 17]
/-- Does the k-th operator stand here? -/
def isOp (l : List UInt8) (k : Nat) : Bool := ((opsT[k]?).getD []).isPrefixOf l
theorem sgn_ops (k : Nat) (h : k < 17) : sgn ((opsK[k]?).getD 0) = (opsT[k]?).getD [] ∧ (opsK[k]?).getD 0 ≠ 0 ∧ 0 < ((opsT[k]?).getD []).length ∧ ((opsT[k]?).getD []).length < 4 := by
  match k, h with
  | 0, _ => exact ⟨rfl, by decide, by decide, by decide⟩
  | 1, _ => exact ⟨rfl, by decide, by decide, by decide⟩
  | 2, _ => exact ⟨rfl, by decide, by decide, by decide⟩
  | 3, _ => exact ⟨rfl, by decide, by decide, by decide⟩
  | 4, _ => exact ⟨rfl, by decide, by decide, by decide⟩
  | 5, _ => exact ⟨rfl, by decide, by decide, by decide⟩
  | 6, _ => exact ⟨rfl, by decide, by decide, by decide⟩
  | 7, _ => exact ⟨rfl, by decide, by decide, by decide⟩
  | 8, _ => exact ⟨rfl, by decide, by decide, by decide⟩
  | 9, _ => exact ⟨rfl, by decide, by decide, by decide⟩
  | 10, _ => exact ⟨rfl, by decide, by decide, by decide⟩
  | 11, _ => exact ⟨rfl, by decide, by decide, by decide⟩
  | 12, _ => exact ⟨rfl, by decide, by decide, by decide⟩
  | 13, _ => exact ⟨rfl, by decide, by decide, by decide⟩
  | 14, _ => exact ⟨rfl, by decide, by decide, by decide⟩
  | 15, _ => exact ⟨rfl, by decide, by decide, by decide⟩
  | 16, _ => exact ⟨rfl, by decide, by decide, by decide⟩
  | _ + 17, h => exact absurd h (by omega)
/-- No operator stands here. -/
theorem ops_none (l : List UInt8) (h : ∀ k, k < 17 → isOp l k = false) : best 18 l = 0 := by
  have h0 := h 0 (by decide)
  have h1 := h 1 (by decide)
  have h2 := h 2 (by decide)
  have h3 := h 3 (by decide)
  have h4 := h 4 (by decide)
  have h5 := h 5 (by decide)
  have h6 := h 6 (by decide)
  have h7 := h 7 (by decide)
  have h8 := h 8 (by decide)
  have h9 := h 9 (by decide)
  have h10 := h 10 (by decide)
  have h11 := h 11 (by decide)
  have h12 := h 12 (by decide)
  have h13 := h 13 (by decide)
  have h14 := h 14 (by decide)
  have h15 := h 15 (by decide)
  have h16 := h 16 (by decide)
  simp only [isOp, opsT, List.getElem?_cons_zero, List.getElem?_cons_succ, Option.getD_some] at h0 h1 h2 h3 h4 h5 h6 h7 h8 h9 h10 h11 h12 h13 h14 h15 h16
  simp only [best, sgn, h0, h1, h2, h3, h4, h5, h6, h7, h8, h9, h10, h11, h12, h13, h14, h15, h16, Bool.false_eq_true, and_false, if_false, List.length_nil, Nat.lt_irrefl, false_and]
/-- The first operator that stands here is the longest one. -/
theorem ops_first (l : List UInt8) (k : Nat) (hk : k < 17) (h : isOp l k = true) (hn : ∀ j, j < k → isOp l j = false) : best 18 l = (opsK[k]?).getD 0 := by
  cases l with
  | nil =>
    match k, hk with
    | 0, _ => cases h
    | 1, _ => cases h
    | 2, _ => cases h
    | 3, _ => cases h
    | 4, _ => cases h
    | 5, _ => cases h
    | 6, _ => cases h
    | 7, _ => cases h
    | 8, _ => cases h
    | 9, _ => cases h
    | 10, _ => cases h
    | 11, _ => cases h
    | 12, _ => cases h
    | 13, _ => cases h
    | 14, _ => cases h
    | 15, _ => cases h
    | 16, _ => cases h
    | _ + 17, hk => exact absurd hk (by omega)
  | cons a r =>
    have hb : ∀ (x : UInt8) (y : List UInt8), (x :: y).isPrefixOf (a :: r) = (x == a && y.isPrefixOf r) := fun _ _ => rfl
    simp only [isOp, opsT] at h hn
    match k, hk with
    | 0, _ =>
      simp only [List.getElem?_cons_zero, Option.getD_some, hb, Bool.and_eq_true, beq_iff_eq] at h
      obtain ⟨rfl, h⟩ := h
      simp [best, sgn, hb, opsK, h]
    | 1, _ =>
      simp only [List.getElem?_cons_zero, List.getElem?_cons_succ, Option.getD_some, hb, Bool.and_eq_true, beq_iff_eq] at h
      obtain ⟨rfl, h⟩ := h
      simp [best, sgn, hb, opsK, h]
    | 2, _ =>
      simp only [List.getElem?_cons_zero, List.getElem?_cons_succ, Option.getD_some, hb, Bool.and_eq_true, beq_iff_eq] at h
      obtain ⟨rfl, h⟩ := h
      simp [best, sgn, hb, opsK, h]
    | 3, _ =>
      simp only [List.getElem?_cons_zero, List.getElem?_cons_succ, Option.getD_some, hb, Bool.and_eq_true, beq_iff_eq] at h
      obtain ⟨rfl, h⟩ := h
      simp [best, sgn, hb, opsK, h]
    | 4, _ =>
      simp only [List.getElem?_cons_zero, List.getElem?_cons_succ, Option.getD_some, hb, Bool.and_eq_true, beq_iff_eq] at h
      obtain ⟨rfl, h⟩ := h
      simp [best, sgn, hb, opsK, h]
    | 5, _ =>
      simp only [List.getElem?_cons_zero, List.getElem?_cons_succ, Option.getD_some, hb, Bool.and_eq_true, beq_iff_eq] at h
      obtain ⟨rfl, -⟩ := h
      simp [best, sgn, hb, opsK]
    | 6, _ =>
      simp only [List.getElem?_cons_zero, List.getElem?_cons_succ, Option.getD_some, hb, Bool.and_eq_true, beq_iff_eq] at h
      obtain ⟨rfl, -⟩ := h
      simp [best, sgn, hb, opsK]
    | 7, _ =>
      simp only [List.getElem?_cons_zero, List.getElem?_cons_succ, Option.getD_some, hb, Bool.and_eq_true, beq_iff_eq] at h
      obtain ⟨rfl, -⟩ := h
      have g2 := hn 2 (by decide)
      simp only [List.getElem?_cons_zero, List.getElem?_cons_succ, Option.getD_some, hb, beq_self_eq_true, Bool.true_and] at g2
      have f2 : List.isPrefixOf [124] r = false := g2
      simp [best, sgn, hb, opsK, f2]
    | 8, _ =>
      simp only [List.getElem?_cons_zero, List.getElem?_cons_succ, Option.getD_some, hb, Bool.and_eq_true, beq_iff_eq] at h
      obtain ⟨rfl, -⟩ := h
      simp [best, sgn, hb, opsK]
    | 9, _ =>
      simp only [List.getElem?_cons_zero, List.getElem?_cons_succ, Option.getD_some, hb, Bool.and_eq_true, beq_iff_eq] at h
      obtain ⟨rfl, -⟩ := h
      simp [best, sgn, hb, opsK]
    | 10, _ =>
      simp only [List.getElem?_cons_zero, List.getElem?_cons_succ, Option.getD_some, hb, Bool.and_eq_true, beq_iff_eq] at h
      obtain ⟨rfl, -⟩ := h
      simp [best, sgn, hb, opsK]
    | 11, _ =>
      simp only [List.getElem?_cons_zero, List.getElem?_cons_succ, Option.getD_some, hb, Bool.and_eq_true, beq_iff_eq] at h
      obtain ⟨rfl, -⟩ := h
      simp [best, sgn, hb, opsK]
    | 12, _ =>
      simp only [List.getElem?_cons_zero, List.getElem?_cons_succ, Option.getD_some, hb, Bool.and_eq_true, beq_iff_eq] at h
      obtain ⟨rfl, -⟩ := h
      have g0 := hn 0 (by decide)
      simp only [List.getElem?_cons_zero, Option.getD_some, hb, beq_self_eq_true, Bool.true_and] at g0
      have f0 : List.isPrefixOf [60, 60] r = false := g0
      simp [best, sgn, hb, opsK, f0]
    | 13, _ =>
      simp only [List.getElem?_cons_zero, List.getElem?_cons_succ, Option.getD_some, hb, Bool.and_eq_true, beq_iff_eq] at h
      obtain ⟨rfl, -⟩ := h
      have g3 := hn 3 (by decide)
      simp only [List.getElem?_cons_zero, List.getElem?_cons_succ, Option.getD_some, hb, beq_self_eq_true, Bool.true_and] at g3
      have f3 : List.isPrefixOf [62] r = false := g3
      simp [best, sgn, hb, opsK, f3]
    | 14, _ =>
      simp only [List.getElem?_cons_zero, List.getElem?_cons_succ, Option.getD_some, hb, Bool.and_eq_true, beq_iff_eq] at h
      obtain ⟨rfl, -⟩ := h
      simp [best, sgn, hb, opsK]
    | 15, _ =>
      simp only [List.getElem?_cons_zero, List.getElem?_cons_succ, Option.getD_some, hb, Bool.and_eq_true, beq_iff_eq] at h
      obtain ⟨rfl, -⟩ := h
      simp [best, sgn, hb, opsK]
    | 16, _ =>
      simp only [List.getElem?_cons_zero, List.getElem?_cons_succ, Option.getD_some, hb, Bool.and_eq_true, beq_iff_eq] at h
      obtain ⟨rfl, -⟩ := h
      simp [best, sgn, hb, opsK]
    | _ + 17, hk => exact absurd hk (by omega)
theorem ops_cases (l : List UInt8) : (∀ j, j < 17 → isOp l j = false) ∨ ∃ k, k < 17 ∧ isOp l k = true ∧ ∀ j, j < k → isOp l j = false := by
  have : ∀ n, n ≤ 17 → (∀ j, j < n → isOp l j = false) ∨ ∃ k, k < n ∧ isOp l k = true ∧ ∀ j, j < k → isOp l j = false := by
    intro n
    induction n with
    | zero => intro _; exact Or.inl (fun j hj => absurd hj (by omega))
    | succ n ih =>
      intro hn
      rcases ih (by omega) with h | ⟨k, h1, h2, h3⟩
      · cases h0 : isOp l n with
        | true => exact Or.inr ⟨n, by omega, h0, h⟩
        | false =>
          refine Or.inl fun j hj => ?_
          rcases Nat.lt_or_ge j n with h4 | h4
          · exact h j h4
          · rw [show j = n by omega]; exact h0
      · exact Or.inr ⟨k, by omega, h2, h3⟩
  exact this 17 (Nat.le_refl _)
theorem isOp_len (l : List UInt8) (k : Nat) (h : isOp l k = true) : ((opsT[k]?).getD []).length ≤ l.length := (List.isPrefixOf_iff_prefix.1 h).length_le
/-! ### what is passed over -/
theorem over_blk {c : UInt8} (t : List UInt8) (h : blk c = true) : over (c :: t) = over t := by
  rw [over, over, List.dropWhile_cons, h]
  rfl
theorem over_stop (m : List UInt8) (h : m = [] ∨ ∃ t, m = 10 :: t) : over m = m := by
  rcases h with rfl | ⟨t, rfl⟩ <;> rfl
theorem over_rem (t : List UInt8) : over (35 :: t) = (35 :: t).dropWhile notNl := rfl
theorem over_none {c : UInt8} (t : List UInt8) (h1 : blk c = false) (h2 : c ≠ 35) : over (c :: t) = c :: t := by
  have hd : (c :: t).dropWhile blk = c :: t := by rw [List.dropWhile_cons, h1]; rfl
  rw [over, hd, overC, if_neg (by simp [h2])]
/-! ### a token after the other -/
/-- What is left behind a token. -/
def aftB (T : List UInt8 → Except Er (Tb × List UInt8)) (g : Nat) (F : Except Er (Tb × List UInt8)) : Except Er (List Tb) := match F with
  | .error e => .error e
  | .ok q => preT [q.1] (lexW T g q.2)
theorem varR_kind {k p : Nat} {g : Bool} {l : List UInt8} {q : Tb × List UInt8} (h : varR k p g l = .ok q) : q.1.kind = k := by
  obtain ⟨t, u⟩ := q
  exact (varR_ok h).1
theorem writ_kind {p : Nat} {g : Bool} {c : UInt8} {t : List UInt8} {q : Tb × List UInt8} (h : writ p g c t = .ok q) : q.1.kind ≠ 0 := by
  unfold writ at h
  split at h
  · cases hq : qraw t with
    | none => rw [hq] at h; cases h
    | some r => rw [hq] at h; cases h; simp
  · split at h
    · obtain ⟨t', u⟩ := q
      have := (dollar_ok h).1
      show t'.kind ≠ 0
      omega
    · split at h
      · cases h
      · cases h; simp
theorem tokM_writ {N : Nat} {gl : Bool} {c : UInt8} {t : List UInt8} (hb : best 18 (c :: t) = 0) : tokenM N gl (c :: t) = writ (N - (t.length + 1)) gl c t := by
  unfold tokenM
  generalize best 18 (c :: t) = k at hb
  rw [if_neg (by rw [hb]; simp)]
theorem tokM_end {N : Nat} {gl : Bool} : tokenM N gl [] = .ok (⟨0, N, 0, [], gl⟩, []) := by
  unfold tokenM
  have hb : best 18 [] = 0 := by
    have h1 := best_sgn 18 []
    generalize best 18 [] = k at h1
    apply Classical.byContradiction
    intro h0
    exact h1.2 h0 (by simpa using List.isPrefixOf_iff_prefix.1 h1.1)
  generalize best 18 [] = k at hb
  rw [if_neg (by rw [hb]; simp)]
theorem tokM_op {N k : Nat} {gl : Bool} {m : List UInt8} (hb : best 18 m = k) (hk : k ≠ 0) : tokenM N gl m = .ok (⟨k, N - m.length, 0, [], gl⟩, m.drop (sgn k).length) := by
  unfold tokenM
  generalize best 18 m = k' at hb
  subst hb
  rw [if_pos hk]
theorem lex_writ {N g : Nat} {l : List UInt8} {c : UInt8} {t : List UInt8} (ho : over l = c :: t) (hb : best 18 (c :: t) = 0) :
    lexW (tokenL N) (g + 1) l = aftB (tokenL N) g (writ (N - (t.length + 1)) (glueB N l (c :: t)) c t) := by
  have hT : tokenL N l = writ (N - (t.length + 1)) (glueB N l (c :: t)) c t := by
    rw [tokenL, ho]
    exact tokM_writ hb
  cases hw : writ (N - (t.length + 1)) (glueB N l (c :: t)) c t with
  | error e => rw [hw] at hT; exact lexW_err _ g _ _ hT
  | ok q =>
    rw [hw] at hT
    exact lexW_more _ g _ _ _ hT (writ_kind hw)
theorem lex_op {N g : Nat} {l m : List UInt8} (ho : over l = m) (k : Nat) (hk : k < 17) (h : isOp m k = true) (hn : ∀ j, j < k → isOp m j = false) :
    lexW (tokenL N) (g + 1) l = preT [⟨(opsK[k]?).getD 0, N - m.length, 0, [], glueB N l m⟩] (lexW (tokenL N) g (m.drop ((opsT[k]?).getD []).length)) := by
  have hb := ops_first _ k hk h hn
  obtain ⟨hs1, hs2, _, _⟩ := sgn_ops k hk
  refine lexW_more _ g _ _ _ ?_ hs2
  rw [tokenL, ho, tokM_op hb hs2, hs1]
theorem lex_end {N g : Nat} {l : List UInt8} (ho : over l = []) : lexW (tokenL N) (g + 1) l = .ok [⟨0, N, 0, [], glueB N l []⟩] := by
  refine lexW_end _ g l _ [] ?_ rfl
  rw [tokenL, ho]
  exact tokM_end
/-! ### quotes -/
/-- What stands between quotes, and what is behind. -/
def dq (l : List UInt8) : Option (List UInt8 × List UInt8) := (qraw l).map (fun q => (unq q.1, q.2))
/-- The same, with what was read ahead of it. -/
def dqA (a l : List UInt8) : Option (List UInt8 × List UInt8) := (dq l).map (fun q => (a ++ q.1, q.2))
theorem dqA_nil (l : List UInt8) : dqA [] l = dq l := by
  unfold dqA
  cases dq l <;> rfl
theorem dqA_end (a : List UInt8) : dqA a [] = none := rfl
theorem dqA_byte (a : List UInt8) {c : UInt8} (t : List UInt8) (h : c ≠ 39) : dqA a (c :: t) = dqA (a ++ [c]) t := by
  unfold dqA dq
  rw [raw_cons t h]
  cases hq : qraw t with
  | none => rfl
  | some q => simp [unq_cons _ h]
theorem dqA_two (a : List UInt8) (t : List UInt8) : dqA a (39 :: 39 :: t) = dqA (a ++ [39]) t := by
  unfold dqA dq
  rw [qraw, if_pos rfl, if_pos rfl]
  cases hq : qraw t with
  | none => rfl
  | some q => simp [unq]
theorem dqA_stop (a : List UInt8) (t : List UInt8) (h : t.head? ≠ some 39) : dqA a (39 :: t) = some (a, t) := by
  unfold dqA dq
  cases t with
  | nil => simp [qraw, unq]
  | cons d t =>
    rw [qraw, if_pos rfl, if_neg (fun e => h (by rw [e]; rfl))]
    simp [unq]
/-- A quoted token, or that it does not end. -/
def quoR (p : Nat) (g : Bool) (o : Option (List UInt8 × List UInt8)) : Except Er (Tb × List UInt8) := match o with
  | none => .error ⟨2, p⟩
  | some q => .ok (⟨19, p, 0, q.1, g⟩, q.2)
theorem writ_quote (p : Nat) (g : Bool) (t : List UInt8) : writ p g 39 t = quoR p g (dqA [] t) := by
  rw [dqA_nil, writ, if_pos rfl, dq]
  cases qraw t <;> rfl
theorem writ_dollar (p : Nat) (g : Bool) (t : List UInt8) : writ p g 36 t = dollar p g t := by
  rw [writ, if_neg (by decide), if_pos rfl]
/-- What stands behind a dollar, and what was read of it. -/
def dolT (k p : Nat) (g : Bool) (l : List UInt8) : Except Er (Tb × List UInt8) :=
  if k = 20 ∧ cnts (l.head?.getD 0) = true then .ok (⟨23, p, (l.head?.getD 0).toNat - 48, [], g⟩, l.drop 1) else varR k p g l
theorem dollar_hash (p : Nat) (g : Bool) (t : List UInt8) : dollar p g (35 :: t) = dolT 21 p g t := by
  rw [dollar, if_pos (by rfl), dolT, if_neg (fun h => absurd h.1 (by decide))]
  rfl
theorem dollar_flat (p : Nat) (g : Bool) (t : List UInt8) : dollar p g (34 :: t) = dolT 22 p g t := by
  rw [dollar, if_neg (by simp), if_pos (by rfl), dolT, if_neg (fun h => absurd h.1 (by decide))]
  rfl
theorem dollar_var (p : Nat) (g : Bool) (t : List UInt8) (h1 : t.head? ≠ some 35) (h2 : t.head? ≠ some 34) : dollar p g t = dolT 20 p g t := by
  rw [dollar, if_neg h1, if_neg h2, dolT]
  cases h : cnts (t.head?.getD 0) with
  | true => rw [if_pos rfl, if_pos ⟨rfl, rfl⟩]
  | false => rw [if_neg (by simp), if_neg (fun h => by cases h.2)]
theorem dolT_num (p : Nat) (g : Bool) (c : UInt8) (t : List UInt8) (h : cnts c = true) : dolT 20 p g (c :: t) = .ok (⟨23, p, c.toNat - 48, [], g⟩, t) := by
  rw [dolT, if_pos ⟨rfl, h⟩]
  rfl
theorem dolT_var (k p : Nat) (g : Bool) (l : List UInt8) (h : k = 20 → cnts (l.head?.getD 0) = false) : dolT k p g l = varR k p g l := by
  rw [dolT, if_neg (fun e => by rw [h e.1] at e; cases e.2)]
theorem writ_bad (p : Nat) (g : Bool) {c : UInt8} (t : List UInt8) (h : c = 38 ∨ c = 96) : writ p g c t = .error ⟨3, p⟩ := by
  rw [writ, if_neg (by rcases h with rfl | rfl <;> decide), if_neg (by rcases h with rfl | rfl <;> decide), if_pos h]
theorem writ_word (p : Nat) (g : Bool) {c : UInt8} (t : List UInt8) (h39 : c ≠ 39) (h36 : c ≠ 36) (h : ¬ (c = 38 ∨ c = 96)) : writ p g c t = .ok (⟨18, p, 0, (c :: t).takeWhile inW, g⟩, (c :: t).dropWhile inW) := by
  rw [writ, if_neg h39, if_neg h36, if_neg h]
/-! ### names -/
theorem tw_mem {q : UInt8 → Bool} : ∀ (l : List UInt8) (x : UInt8), x ∈ l.takeWhile q → q x = true
  | [], x, h => by cases h
  | c :: t, x, h => by
    rw [List.takeWhile_cons] at h
    split at h
    · rename_i hc
      rcases List.mem_cons.1 h with rfl | h
      · exact hc
      · exact tw_mem t x h
    · cases h
theorem nrun_cont : ∀ l : List UInt8, (nrun l).all cont8 = true := fun l => by
  cases l with
  | nil => rfl
  | cons c t =>
    rw [nrun]
    split
    · rw [List.all_eq_true]
      intro x hx
      exact tw_mem _ x hx
    · rfl
theorem nrun_name (l : List UInt8) (h : nrun l ≠ []) : nameB (nrun l) = decide ((nrun l).length ≤ 20) := by
  have hc := nrun_cont l
  have hs : ∀ b r, nrun l = b :: r → start8 b = true := fun b r e => by
    cases l with
    | nil => cases e
    | cons c t =>
      rw [nrun] at e
      split at e
      · rename_i h1
        rw [List.takeWhile_cons, show cont8 c = true by unfold cont8 contB; rw [show startB (c.toNat : Int) = true from h1]; rfl] at e
        simp only [if_true] at e
        cases e
        exact h1
      · cases e
  cases hn : nrun l with
  | nil => exact absurd hn h
  | cons b r =>
    rw [hn] at hc
    rw [nameB, hs b r hn, allCont, hc]
    simp
theorem nrun_cnt (l : List UInt8) (h : nrun l ≠ []) : cnts (l.head?.getD 0) = false := by
  cases l with
  | nil => exact absurd rfl h
  | cons c t =>
    rw [nrun] at h
    split at h
    · rename_i h1
      have h2 : startB (c.toNat : Int) = true := h1
      unfold startB at h2
      show cnts c = false
      unfold cnts
      have h3 := of_decide_eq_true h2
      rw [Bool.and_eq_false_iff, decide_eq_false_iff_not, decide_eq_false_iff_not]
      omega
    · exact absurd rfl h
theorem nrun_star (t : List UInt8) : nrun (42 :: t) = [] := by
  rw [nrun, if_neg (by decide)]
/-- A variable's name, star, or none. -/
theorem varR_name (k p : Nat) (g : Bool) (l : List UInt8) (h : nrun l ≠ []) (h2 : (nrun l).length ≤ 20) : varR k p g l = .ok (⟨k, p, 0, nrun l, g⟩, l.drop (nrun l).length) := by
  rw [varR, if_neg ?_, nrun_name l h, if_pos (decide_eq_true h2)]
  intro e
  cases l with
  | nil => cases e
  | cons c t =>
    rw [List.head?_cons, Option.some.injEq] at e
    rw [e, nrun_star] at h
    exact h rfl
theorem varR_long (k p : Nat) (g : Bool) (l : List UInt8) (h2 : ¬ (nrun l).length ≤ 20) : varR k p g l = .error ⟨0, p⟩ := by
  have h : nrun l ≠ [] := fun e => h2 (by rw [e]; simp)
  rw [varR, if_neg ?_, nrun_name l h, if_neg (by simpa using h2)]
  intro e
  cases l with
  | nil => cases e
  | cons c t =>
    rw [List.head?_cons, Option.some.injEq] at e
    rw [e, nrun_star] at h
    exact h rfl
theorem varR_star (k p : Nat) (g : Bool) (t : List UInt8) : varR k p g (42 :: t) = .ok (⟨k, p, 0, [42], g⟩, t) := by
  rw [varR, if_pos (by rfl)]
  rfl
theorem varR_none (k p : Nat) (g : Bool) (l : List UInt8) (h : nrun l = []) (h2 : l.head? ≠ some 42) : varR k p g l = .error ⟨0, p⟩ := by
  rw [varR, if_neg h2, h, nameB]
  rfl
end Go.Proofs.YtddekcohfbnmbaaDoor
