/- Plain: the tokens one by one, as the document takes them. -/
import Derived.Test.YtlbdecohmjpgaaaDoorPureR
import Derived.Test.YtlbdecohmjpgaaaDoorRf2
namespace Go.Proofs.YtlbdecohmjpgaaaDoor

/-- Is the k-th operator the first that stands here? -/
def isOp (l : List UInt8) (k : Nat) : Bool := ((opsT[k]?).getD []).isPrefixOf l
theorem pre_cons (a b : UInt8) (x y : List UInt8) : (a :: x).isPrefixOf (b :: y) = (a == b && x.isPrefixOf y) := rfl
theorem pre_nil (y : List UInt8) : ([] : List UInt8).isPrefixOf y = true := by cases y <;> rfl
theorem pre_cons_nil (a : UInt8) (x : List UInt8) : (a :: x).isPrefixOf [] = false := rfl
theorem sgn_ops (k : Nat) (h : k < 12) : sgn ((opsK[k]?).getD 0) = (opsT[k]?).getD [] ∧ (opsK[k]?).getD 0 ≠ 0 := by
  match k, h with
  | 0, _ => exact ⟨rfl, by decide⟩
  | 1, _ => exact ⟨rfl, by decide⟩
  | 2, _ => exact ⟨rfl, by decide⟩
  | 3, _ => exact ⟨rfl, by decide⟩
  | 4, _ => exact ⟨rfl, by decide⟩
  | 5, _ => exact ⟨rfl, by decide⟩
  | 6, _ => exact ⟨rfl, by decide⟩
  | 7, _ => exact ⟨rfl, by decide⟩
  | 8, _ => exact ⟨rfl, by decide⟩
  | 9, _ => exact ⟨rfl, by decide⟩
  | 10, _ => exact ⟨rfl, by decide⟩
  | 11, _ => exact ⟨rfl, by decide⟩
/-- No operator stands here. -/
theorem ops_none (l : List UInt8) (h : ∀ k, k < 12 → isOp l k = false) : best 13 l = 0 := by
  have h0 := h 0 (by decide)
  have h1 := h 1 (by decide)
  have h2 := h 2 (by decide)
  have h3 := h 3 (by decide)
  have h4 := h 4 (by decide)
  have h5 := h 5 (by decide)
  have h6 := h 6 (by decide)
  have h7 := h 7 (by decide)
  have h8 := h 8 (by decide)
  have h9 := h 9 (by decide)
  have h10 := h 10 (by decide)
  have h11 := h 11 (by decide)
  simp only [isOp, opsT, List.getElem?_cons_zero, List.getElem?_cons_succ, Option.getD_some] at h0 h1 h2 h3 h4 h5 h6 h7 h8 h9 h10 h11
  simp only [best, sgn, h0, h1, h2, h3, h4, h5, h6, h7, h8, h9, h10, h11, Bool.false_eq_true, and_false, if_false, List.length_nil, Nat.lt_irrefl, false_and]
/-- The first operator that stands here is the longest one. -/
theorem ops_first (l : List UInt8) (k : Nat) (hk : k < 12) (h : isOp l k = true) (hn : ∀ j, j < k → isOp l j = false) : best 13 l = (opsK[k]?).getD 0 := by
  cases l with
  | nil =>
    match k, hk with
    | 0, _ => cases h
    | 1, _ => cases h
    | 2, _ => cases h
    | 3, _ => cases h
    | 4, _ => cases h
    | 5, _ => cases h
    | 6, _ => cases h
    | 7, _ => cases h
    | 8, _ => cases h
    | 9, _ => cases h
    | 10, _ => cases h
    | 11, _ => cases h
  | cons a r =>
    have hb : ∀ (x : UInt8) (y : List UInt8), (x :: y).isPrefixOf (a :: r) = (x == a && y.isPrefixOf r) := fun _ _ => rfl
    simp only [isOp, opsT] at h hn
    match k, hk with
    | 0, _ =>
      simp only [List.getElem?_cons_zero, Option.getD_some, hb, Bool.and_eq_true, beq_iff_eq] at h
      obtain ⟨rfl, h⟩ := h
      simp [best, sgn, hb, h, opsK]
    | 1, _ =>
      simp only [List.getElem?_cons_zero, List.getElem?_cons_succ, Option.getD_some, hb, Bool.and_eq_true, beq_iff_eq] at h
      obtain ⟨rfl, h⟩ := h
      simp [best, sgn, hb, h, opsK]
    | 2, _ =>
      simp only [List.getElem?_cons_zero, List.getElem?_cons_succ, Option.getD_some, hb, Bool.and_eq_true, beq_iff_eq] at h
      obtain ⟨rfl, h⟩ := h
      simp [best, sgn, hb, h, opsK]
    | 3, _ =>
      simp only [List.getElem?_cons_zero, List.getElem?_cons_succ, Option.getD_some, hb, Bool.and_eq_true, beq_iff_eq] at h
      obtain ⟨rfl, h⟩ := h
      simp [best, sgn, hb, h, opsK]
    | 4, _ =>
      simp only [List.getElem?_cons_zero, List.getElem?_cons_succ, Option.getD_some, hb, Bool.and_eq_true, beq_iff_eq] at h
      obtain ⟨rfl, h⟩ := h
      simp [best, sgn, hb, h, opsK]
    | 5, _ =>
      simp only [List.getElem?_cons_zero, List.getElem?_cons_succ, Option.getD_some, hb, Bool.and_eq_true, beq_iff_eq] at h
      obtain ⟨rfl, h⟩ := h
      simp [best, sgn, hb, opsK]
    | 6, _ =>
      simp only [List.getElem?_cons_zero, List.getElem?_cons_succ, Option.getD_some, hb, Bool.and_eq_true, beq_iff_eq] at h
      obtain ⟨rfl, h⟩ := h
      have h1 := hn 1 (by decide)
      simp only [List.getElem?_cons_zero, List.getElem?_cons_succ, Option.getD_some, hb, beq_self_eq_true, Bool.true_and] at h1
      have h2 : List.isPrefixOf [59] r = false := h1
      simp [best, sgn, hb, opsK, h2]
    | 7, _ =>
      simp only [List.getElem?_cons_zero, List.getElem?_cons_succ, Option.getD_some, hb, Bool.and_eq_true, beq_iff_eq] at h
      obtain ⟨rfl, h⟩ := h
      have h1 := hn 3 (by decide)
      simp only [List.getElem?_cons_zero, List.getElem?_cons_succ, Option.getD_some, hb, beq_self_eq_true, Bool.true_and] at h1
      have h2 : List.isPrefixOf [124] r = false := h1
      simp [best, sgn, hb, opsK, h2]
    | 8, _ =>
      simp only [List.getElem?_cons_zero, List.getElem?_cons_succ, Option.getD_some, hb, Bool.and_eq_true, beq_iff_eq] at h
      obtain ⟨rfl, h⟩ := h
      simp [best, sgn, hb, opsK]
    | 9, _ =>
      simp only [List.getElem?_cons_zero, List.getElem?_cons_succ, Option.getD_some, hb, Bool.and_eq_true, beq_iff_eq] at h
      obtain ⟨rfl, h⟩ := h
      simp [best, sgn, hb, opsK]
    | 10, _ =>
      simp only [List.getElem?_cons_zero, List.getElem?_cons_succ, Option.getD_some, hb, Bool.and_eq_true, beq_iff_eq] at h
      obtain ⟨rfl, h⟩ := h
      have h1 := hn 0 (by decide)
      simp only [List.getElem?_cons_zero, Option.getD_some, hb, beq_self_eq_true, Bool.true_and] at h1
      have h2 : List.isPrefixOf [60, 60] r = false := h1
      simp [best, sgn, hb, opsK, h2]
    | 11, _ =>
      simp only [List.getElem?_cons_zero, List.getElem?_cons_succ, Option.getD_some, hb, Bool.and_eq_true, beq_iff_eq] at h
      obtain ⟨rfl, h⟩ := h
      have h1 := hn 4 (by decide)
      simp only [List.getElem?_cons_zero, List.getElem?_cons_succ, Option.getD_some, hb, beq_self_eq_true, Bool.true_and] at h1
      have h2 : List.isPrefixOf [62] r = false := h1
      simp [best, sgn, hb, opsK, h2]
/-! ### a token after the other -/
abbrev tokT (N : Nat) : List UInt8 → Except Er (Tk × List UInt8) := fun m => tokenL N (over m)
theorem lexW_same (N g : Nat) (l m : List UInt8) (h : over l = over m) : lexW (tokT N) g l = lexW (tokT N) g m := by
  cases g with
  | zero => rfl
  | succ g => rw [lexW, lexW]; simp only [tokT, h]
theorem lex_blank (N g : Nat) (c : UInt8) (t : List UInt8) (h : blk c = true) : lexW (tokT N) g (c :: t) = lexW (tokT N) g t := by
  refine lexW_same N g _ _ ?_
  rw [over, over, List.dropWhile_cons, h]
  rfl
theorem over_stop (m : List UInt8) (h : m = [] ∨ ∃ t, m = 10 :: t) : over m = m := by
  rcases h with rfl | ⟨t, rfl⟩ <;> rfl
theorem lex_comment (N g : Nat) (t : List UInt8) : lexW (tokT N) g (35 :: t) = lexW (tokT N) g ((35 :: t).dropWhile notNl) := by
  refine lexW_same N g _ _ ?_
  have h1 : over (35 :: t) = (35 :: t).dropWhile notNl := rfl
  rw [h1, over_stop]
  cases hd : (35 :: t).dropWhile notNl with
  | nil => exact Or.inl rfl
  | cons x r =>
    have := List.head?_dropWhile_not notNl (35 :: t)
    rw [hd] at this
    have hx : x = 10 := by simpa [notNl] using this
    exact Or.inr ⟨r, by rw [hx]⟩
theorem over_none {c : UInt8} (t : List UInt8) (h1 : blk c = false) (h2 : c ≠ 35) : over (c :: t) = c :: t := by
  have hd : (c :: t).dropWhile blk = c :: t := by rw [List.dropWhile_cons, h1]; rfl
  rw [over, hd, if_neg (by simp [h2])]
theorem lex_op {N g : Nat} {c : UInt8} {t : List UInt8} (h1 : blk c = false) (h2 : c ≠ 35) (k : Nat) (hk : k < 12) (h : isOp (c :: t) k = true) (hn : ∀ j, j < k → isOp (c :: t) j = false) :
    lexW (tokT N) (g + 1) (c :: t) = preT [⟨(opsK[k]?).getD 0, N - (t.length + 1), []⟩] (lexW (tokT N) g ((c :: t).drop ((opsT[k]?).getD []).length)) := by
  have hb := ops_first _ k hk h hn
  obtain ⟨hs1, hs2⟩ := sgn_ops k hk
  refine lexW_more _ g _ _ _ ?_ hs2
  show tokenL N (over (c :: t)) = _
  rw [over_none t h1 h2, tokenL, hb, if_pos hs2, hs1]
  rfl
theorem lex_amp {N g : Nat} {t : List UInt8} (hn : ∀ j, j < 12 → isOp (38 :: t) j = false) : lexW (tokT N) (g + 1) (38 :: t) = .error ⟨3, N - (t.length + 1)⟩ := by
  refine lexW_err _ g _ _ ?_
  show tokenL N (over (38 :: t)) = _
  rw [over_none t rfl (by decide), tokenL, ops_none _ hn]
  rfl
theorem lex_wordT {N g : Nat} {c : UInt8} {t : List UInt8} (h1 : blk c = false) (h2 : c ≠ 35) (h3 : c ≠ 38) (hn : ∀ j, j < 12 → isOp (c :: t) j = false) :
    lexW (tokT N) (g + 1) (c :: t) = match wordX N (c :: t) with
      | .error e => .error e
      | .ok (ps, u) => preT [⟨13, N - (t.length + 1), ps⟩] (lexW (tokT N) g u) := by
  have hT : tokT N (c :: t) = match wordX N (c :: t) with
      | .error e => .error e
      | .ok (ps, u) => .ok (⟨13, N - (t.length + 1), ps⟩, u) := by
    show tokenL N (over (c :: t)) = _
    rw [over_none t h1 h2, tokenL, ops_none _ hn, if_neg (by simp)]
    simp only [if_neg h3]
    rfl
  cases hw : wordX N (c :: t) with
  | error e => rw [hw] at hT; exact lexW_err _ g _ _ hT
  | ok q =>
    obtain ⟨ps, u⟩ := q
    rw [hw] at hT
    exact lexW_more _ g _ _ _ hT (by simp)
end Go.Proofs.YtlbdecohmjpgaaaDoor
