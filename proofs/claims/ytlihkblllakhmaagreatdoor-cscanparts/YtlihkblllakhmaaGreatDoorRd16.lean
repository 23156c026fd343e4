/- Words in memory; the words of a command: what is plain of them. -/
import Derived.Test.YtlihkblllakhmaaGreatDoorRd15
namespace Go.Proofs.YtlihkblllakhmaaGreatDoor
open Go.RowKit
attribute [local go_sem] Oper.semAt_some

/-! ### words in memory -/
abbrev wdC (q : Value × Wd) : List Value := [.int .i64 (q.2.pos : Nat), .bool q.2.braced, q.1]
def wdCs (K : List (Value × Wd)) : List Value := K.flatMap wdC
theorem wdCs_append (X Y : List (Value × Wd)) : wdCs (X ++ Y) = wdCs X ++ wdCs Y := by simp [wdCs]
theorem wdCs_one (q : Value × Wd) : wdCs [q] = wdC q := by simp [wdCs]
/-- Words of one's own, and their parts. -/
structure WdOwn (W : World) (B : Nat) (v : Value) (K : List (Value × Wd)) : Prop where
  row : W.ownsRow B 44 3 v K.length (wdCs K)
  parts : ∀ q ∈ K, PtOwn W B q.1 q.2.parts
theorem WdOwn.nil (W : World) (B : Nat) : WdOwn W B (.slice none 0 0) [] := ⟨World.ownsRow_nil W B _ _, fun q h => by cases h⟩
theorem WdOwn.turn {W W' : World} {B : Nat} {v : Value} {K : List (Value × Wd)} {S : Nat → Prop} (h : WdOwn W B v K) (hT : Turn S W W') (hS : ∀ i, S i → i < B) : WdOwn W' B v K := by
  refine ⟨owns_turn h.row hT fun g hg hs => ?_, fun q hq => (h.parts q hq).turn hT hS⟩
  have := (World.ownsRow.lt h.row g hg).1
  have := hS g hs
  omega
theorem WdOwn.below {W W' : World} {B : Nat} {v : Value} {K : List (Value × Wd)} (h : WdOwn W B v K) (hb : Below W.heap.size W W') : WdOwn W' B v K := h.turn (Turn.ofBelow (S := fun _ => False) hb) (fun _ e => e.elim)
theorem WdOwn.form {W : World} {B : Nat} {v : Value} {K : List (Value × Wd)} (h : WdOwn W B v K) : ∃ ad cap, v = .slice ad K.length cap := owns_slice h.row
theorem WdOwn.lower {W : World} {B B' : Nat} {v : Value} {K : List (Value × Wd)} (h : WdOwn W B v K) (hB : B' ≤ B) : WdOwn W B' v K := ⟨owns_lower h.row hB, fun q hq => (h.parts q hq).lower hB⟩
theorem PtOwn.grown {X w6 : World} {B B' n : Nat} {v row : Value} {P : List Pt} {xs : List Value} (h : PtOwn X B v P) (hr : X.ownsRow B' 44 3 row n xs) (hg : X.grownBy w6 row.ownBlock) : PtOwn w6 B v P :=
  owns_turn h (Turn.ofGrown hg) (fun b hb e => owns_apart2 h hr (by decide) b hb e)
theorem infoW : (Tryz.prog.info? 44).map (fun i => (i.zero, i.size, i.bytes)) = some (some (.agg zW), 3, 40) := by kernel_rfl
/-! ### words, plainly -/
def preW (acc : List Wd) (R : Except Er (List Wd × List UInt8)) : Except Er (List Wd × List UInt8) := match R with
  | .error e => .error e
  | .ok q => .ok (acc ++ q.1, q.2)
theorem preW_pre (a b : List Wd) (R : Except Er (List Wd × List UInt8)) : preW a (preW b R) = preW (a ++ b) R := by
  cases R with
  | error e => rfl
  | ok q => simp [preW]
theorem preW_nil (R : Except Er (List Wd × List UInt8)) : preW [] R = R := by cases R <;> rfl
theorem words_nil (N f : Nat) : wordsL N f [] = .ok ([], []) := by cases f <;> rfl
theorem words_stop (N f : Nat) (c : UInt8) (t : List UInt8) (h : sepS.contains c = true) : wordsL N f (c :: t) = .ok ([], c :: t) := by
  cases f with
  | zero => rfl
  | succ f => rw [wordsL, if_pos h]
theorem words_err (N f : Nat) (c : UInt8) (t : List UInt8) (h : sepS.contains c = false) (x : Er) (hp : wordL N (c :: t) = .error x) : wordsL N (f + 1) (c :: t) = .error x := by
  rw [wordsL, if_neg (by rw [h]; simp), hp]
theorem words_ok (N f : Nat) (c : UInt8) (t : List UInt8) (h : sepS.contains c = false) (w : Wd) (u : List UInt8) (hp : wordL N (c :: t) = .ok (w, u)) : wordsL N (f + 1) (c :: t) = preW [w] (wordsL N f (u.dropWhile blk)) := by
  rw [wordsL, if_neg (by rw [h]; simp), hp]
  simp only
  cases wordsL N f (u.dropWhile blk) <;> rfl
theorem parts_le (N : Nat) (e : List UInt8) : ∀ (f : Nat) (l : List UInt8) (ps : List Pt) (u : List UInt8), partsL N e f l = .ok (ps, u) → u.length ≤ l.length
  | 0, l, ps, u, h => by cases h; exact Nat.le_refl _
  | f + 1, [], ps, u, h => by cases h; exact Nat.le_refl _
  | f + 1, c :: t, ps, u, h => by
    cases hc : e.contains c with
    | true => rw [parts_stop _ _ _ _ _ hc] at h; cases h; exact Nat.le_refl _
    | false =>
      cases hp : partL N e (c :: t) with
      | error x => rw [parts_err _ _ _ _ _ hc x hp] at h; cases h
      | ok r =>
        obtain ⟨p, v⟩ := r
        have h1 := partL_lt hc hp
        rw [parts_ok _ _ _ _ _ hc p v hp] at h
        cases hq : partsL N e f v with
        | error x => rw [hq] at h; cases h
        | ok r2 =>
          obtain ⟨ps2, u2⟩ := r2
          rw [hq] at h
          cases h
          exact Nat.le_trans (parts_le N e f v ps2 u2 hq) (Nat.le_of_lt h1)
theorem parts_lt {N f : Nat} {e : List UInt8} {c : UInt8} {t : List UInt8} {ps : List Pt} {u : List UInt8} (hc : e.contains c = false) (h : partsL N e (f + 1) (c :: t) = .ok (ps, u)) : u.length < (c :: t).length := by
  cases hp : partL N e (c :: t) with
  | error x => rw [parts_err _ _ _ _ _ hc x hp] at h; cases h
  | ok r =>
    obtain ⟨p, v⟩ := r
    have h1 := partL_lt hc hp
    rw [parts_ok _ _ _ _ _ hc p v hp] at h
    cases hq : partsL N e f v with
    | error x => rw [hq] at h; cases h
    | ok r2 =>
      obtain ⟨ps2, u2⟩ := r2
      rw [hq] at h
      cases h
      exact Nat.lt_of_le_of_lt (parts_le N e f v ps2 u2 hq) h1
theorem closed_ok {N : Nat} {w w' : Wd} {u u' : List UInt8} (h : closedL N w u = .ok (w', u')) : u' = u := by
  cases u with
  | nil => cases h; rfl
  | cons c t =>
    rw [closedL] at h
    split at h
    · cases h; rfl
    · cases h
theorem word_lt {N : Nat} {c : UInt8} {t : List UInt8} {w : Wd} {u : List UInt8} (hc : endS.contains c = false) (h : wordL N (c :: t) = .ok (w, u)) : u.length < (c :: t).length := by
  unfold wordL at h
  simp only [List.tail_cons] at h
  split at h
  · cases hb : passB 0 t with
    | none => rw [hb] at h; cases h
    | some v =>
      rw [hb] at h
      have h1 := passB_lt _ _ _ _ (Nat.le_refl _) hb
      rw [closed_ok h, List.length_cons]
      omega
  · split at h
    · cases hp : partsL N [34] (c :: t).length t with
      | error x => rw [hp] at h; cases h
      | ok r =>
        obtain ⟨ps, v⟩ := r
        have h1 := parts_le _ _ _ _ _ _ hp
        rw [hp] at h
        cases v with
        | nil => cases h
        | cons d v =>
          simp only at h
          rw [closed_ok h]
          simp only [List.length_cons] at h1 ⊢
          omega
    · cases hp : partsL N endS (c :: t).length (c :: t) with
      | error x => rw [hp] at h; cases h
      | ok r =>
        obtain ⟨ps, v⟩ := r
        rw [hp] at h
        cases h
        exact parts_lt hc hp
/-- No blank ahead. -/
def NoBlk (l : List UInt8) : Prop := ∀ c t, l = c :: t → blk c = false
theorem noBlk_drop (l : List UInt8) : NoBlk (l.dropWhile blk) := by
  induction l with
  | nil => intro c t e; cases e
  | cons a l ih =>
    intro c t e
    cases h : blk a with
    | true => rw [List.dropWhile_cons, if_pos h] at e; exact ih c t e
    | false => rw [List.dropWhile_cons, if_neg (by rw [h]; simp)] at e; cases e; exact h
theorem nl_drop (l : List UInt8) : ∀ c t, l.dropWhile notNl = c :: t → c = 10 := by
  induction l with
  | nil => intro c t e; cases e
  | cons a l ih =>
    intro c t e
    cases h : notNl a with
    | true => rw [List.dropWhile_cons, if_pos h] at e; exact ih c t e
    | false =>
      rw [List.dropWhile_cons, if_neg (by rw [h]; simp)] at e
      cases e
      simpa [notNl] using h
theorem noBlk_over (l : List UInt8) : NoBlk (over l) := by
  unfold over overC
  split
  · intro c t e
    rw [nl_drop _ c t e]
    rfl
  · exact noBlk_drop l
theorem ends_sep (c : UInt8) (h : sepS.contains c = false) (h' : blk c = false) : endS.contains c = false := by
  simp only [endS, sepS, blk, blkS, List.contains_cons, List.contains_nil, Bool.or_false, Bool.or_eq_false_iff] at h h' ⊢
  exact ⟨h'.1, h'.2, h.1, h.2⟩
end Go.Proofs.YtlihkblllakhmaaGreatDoor
