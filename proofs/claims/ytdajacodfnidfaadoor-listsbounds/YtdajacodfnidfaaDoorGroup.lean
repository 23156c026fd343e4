/- The statement on groups, walked. -/
import Derived.Test.YtdajacodfnidfaaDoorLight
import Derived.Test.YtdajacodfnidfaaDoorGroupPlain
namespace Go.Proofs.YtdajacodfnidfaaDoor
open Go.RowKit Go.Shelf

/-- The error of a list that may be too big. -/
def resV (a : Addr) : Option (List (List UInt8)) → Value
  | some _ => .nilIface
  | none => bigV a
/-- The list, or none. -/
def resL : Option (List (List UInt8)) → List (List UInt8)
  | some l => l
  | none => []
theorem GotL.both {B : Nat} {a : Addr} {r : Option (List (List UInt8))} {e : Ending} {w : World} (h : GotL B a r e w) : ∃ ad cap, e = .returned (.tuple #[.slice ad (resL r).length cap, resV a r]) ∧ Tx w (.slice ad (resL r).length cap) (resL r) := by
  cases r with
  | none => exact ⟨none, 0, h, .inl ⟨rfl, rfl⟩⟩
  | some l =>
    obtain ⟨v, h1, h2⟩ := h
    have h3 := Tx.owned h2
    obtain ⟨ad, cap, rfl⟩ := h3.form
    exact ⟨ad, cap, h1, h3⟩
theorem Tss.three (W : World) (v0 v1 v2 : Value) (l0 l1 l2 : List (List UInt8)) (h0 : Tx W v0 l0) (h1 : Tx W v1 l1) (h2 : Tx W v2 l2) : Tss (W.alloc (.cells #[v0, v1, v2] 22)) (.slice (some ⟨W.heap.size, 0, none⟩) 3 3) [l0, l1, l2] :=
  Tss.new W [v0, v1, v2] [l0, l1, l2] rfl fun k v l hv hl => by
    match k, hv, hl with
    | 0, hv, hl => cases hv; cases hl; exact h0
    | 1, hv, hl => cases hv; cases hl; exact h1
    | 2, hv, hl => cases hv; cases hl; exact h2
/-- Lists of a size that may be handled. -/
def Ok (l : List (List UInt8)) : Prop := l.length < 4294967296 ∧ ∀ s ∈ l, s.length < 4294967296
theorem Ok.nil : Ok [] := ⟨by simp, fun s hs => by simp at hs⟩
theorem Ok.fits {l : List (List UInt8)} (h : fitsB l = true) : Ok l := ⟨by have := fits_length l h; omega, fun s hs => by have := fits_mem l h s hs; omega⟩
theorem ok_bound (l : List (List UInt8)) : Ok (resL (bound l)) := by
  unfold bound
  split
  · next h => exact Ok.fits h
  · exact Ok.nil
theorem ok_join (A B : List (List UInt8)) : Ok (resL (joinB [A, B])) := by
  cases h : joinB [A, B] with
  | none => exact Ok.nil
  | some r => exact Ok.fits (joinB_two A B r h).2.1
theorem ok_two {P Q : List (List UInt8)} (hp : Ok P) (hq : Ok Q) : (∀ l ∈ [P, Q], l.length < 4294967296) ∧ ∀ l ∈ [P, Q], ∀ s ∈ l, s.length < 4294967296 := by
  refine ⟨fun l hl => ?_, fun l hl => ?_⟩
  all_goals
    simp at hl
    rcases hl with rfl | rfl
  · exact hp.1
  · exact hq.1
  · exact hp.2
  · exact hq.2
theorem ok_three {P Q R : List (List UInt8)} (hp : Ok P) (hq : Ok Q) (hr : Ok R) : (∀ l ∈ [P, Q, R], l.length < 4294967296) ∧ ∀ l ∈ [P, Q, R], ∀ s ∈ l, s.length < 4294967296 := by
  refine ⟨fun l hl => ?_, fun l hl => ?_⟩
  all_goals
    simp at hl
    rcases hl with rfl | rfl | rfl
  · exact hp.1
  · exact hq.1
  · exact hr.1
  · exact hp.2
  · exact hq.2
  · exact hr.2

theorem below_new (W : World) (o : Obj) : Below W.heap.size W (W.alloc o) := (Below.refl _ W).alloc (Nat.le_refl _) _
theorem cat2_any (W : World) (a : Addr) (v0 v1 : Value) (P Q : List (List UInt8)) (h0 : Tx W v0 P) (h1 : Tx W v1 Q) (hp : Ok P) (hq : Ok Q) (hE : Eb W a) :
    Calls Tryd.prog 10 #[.slice (some ⟨W.heap.size, 0, none⟩) 2 2] (W.alloc (.cells #[v0, v1] 22)) fun e w' => ∃ ad cap, e = .returned (.tuple #[.slice ad (resL (bound (P ++ Q))).length cap, resV a (bound (P ++ Q))]) ∧ Tx w' (.slice ad (resL (bound (P ++ Q))).length cap) (resL (bound (P ++ Q))) ∧ Below W.heap.size W w' := by
  have hb := below_new W (.cells #[v0, v1] 22)
  have h := cat_any _ [P, Q] _ a (Tss.two W v0 v1 P Q h0 h1) (by simp) (ok_two hp hq).1 (hE.below hb hE.pos)
  have e1 : gatAll id [P, Q] = P ++ Q := by simp [gatAll]
  rw [e1] at h
  refine h.mono fun e w' ⟨h2, h3⟩ => ?_
  obtain ⟨ad, cap, h4, h5⟩ := h2.both
  exact ⟨ad, cap, h4, h5, hb.trans (h3.mono hb.size)⟩
theorem cat3_any (W : World) (a : Addr) (v0 v1 v2 : Value) (P Q R : List (List UInt8)) (h0 : Tx W v0 P) (h1 : Tx W v1 Q) (h2 : Tx W v2 R) (hp : Ok P) (hq : Ok Q) (hr : Ok R) (hE : Eb W a) :
    Calls Tryd.prog 10 #[.slice (some ⟨W.heap.size, 0, none⟩) 3 3] (W.alloc (.cells #[v0, v1, v2] 22)) fun e w' => ∃ ad cap, e = .returned (.tuple #[.slice ad (resL (bound (P ++ Q ++ R))).length cap, resV a (bound (P ++ Q ++ R))]) ∧ Tx w' (.slice ad (resL (bound (P ++ Q ++ R))).length cap) (resL (bound (P ++ Q ++ R))) ∧ Below W.heap.size W w' := by
  have hb := below_new W (.cells #[v0, v1, v2] 22)
  have h := cat_any _ [P, Q, R] _ a (Tss.three W v0 v1 v2 P Q R h0 h1 h2) (by simp) (ok_three hp hq hr).1 (hE.below hb hE.pos)
  have e1 : gatAll id [P, Q, R] = P ++ Q ++ R := by simp [gatAll]
  rw [e1] at h
  refine h.mono fun e w' ⟨h2, h3⟩ => ?_
  obtain ⟨ad, cap, h4, h5⟩ := h2.both
  exact ⟨ad, cap, h4, h5, hb.trans (h3.mono hb.size)⟩
theorem join2_any (W : World) (a : Addr) (v0 v1 : Value) (P Q : List (List UInt8)) (h0 : Tx W v0 P) (h1 : Tx W v1 Q) (hp : Ok P) (hq : Ok Q) (hE : Eb W a) :
    Calls Tryd.prog 13 #[.slice (some ⟨W.heap.size, 0, none⟩) 2 2] (W.alloc (.cells #[v0, v1] 22)) fun e w' => ∃ ad cap, e = .returned (.tuple #[.slice ad (resL (joinB [P, Q])).length cap, resV a (joinB [P, Q])]) ∧ Tx w' (.slice ad (resL (joinB [P, Q])).length cap) (resL (joinB [P, Q])) ∧ Below W.heap.size W w' := by
  have hb := below_new W (.cells #[v0, v1] 22)
  have h := join_any _ [P, Q] _ a (Tss.two W v0 v1 P Q h0 h1) (by simp) (ok_two hp hq).1 (ok_two hp hq).2 (hE.below hb hE.pos)
  refine h.mono fun e w' ⟨h2, h3⟩ => ?_
  obtain ⟨ad, cap, h4, h5⟩ := h2.both
  exact ⟨ad, cap, h4, h5, hb.trans (h3.mono hb.size)⟩
theorem join3_any (W : World) (a : Addr) (v0 v1 v2 : Value) (P Q R : List (List UInt8)) (h0 : Tx W v0 P) (h1 : Tx W v1 Q) (h2 : Tx W v2 R) (hp : Ok P) (hq : Ok Q) (hr : Ok R) (hE : Eb W a) :
    Calls Tryd.prog 13 #[.slice (some ⟨W.heap.size, 0, none⟩) 3 3] (W.alloc (.cells #[v0, v1, v2] 22)) fun e w' => ∃ ad cap, e = .returned (.tuple #[.slice ad (resL (joinB [P, Q, R])).length cap, resV a (joinB [P, Q, R])]) ∧ Tx w' (.slice ad (resL (joinB [P, Q, R])).length cap) (resL (joinB [P, Q, R])) ∧ Below W.heap.size W w' := by
  have hb := below_new W (.cells #[v0, v1, v2] 22)
  have h := join_any _ [P, Q, R] _ a (Tss.three W v0 v1 v2 P Q R h0 h1 h2) (by simp) (ok_three hp hq hr).1 (ok_three hp hq hr).2 (hE.below hb hE.pos)
  refine h.mono fun e w' ⟨h2, h3⟩ => ?_
  obtain ⟨ad, cap, h4, h5⟩ := h2.both
  exact ⟨ad, cap, h4, h5, hb.trans (h3.mono hb.size)⟩
theorem same_any (W : World) (v0 v1 : Value) (P Q : List (List UInt8)) (h0 : Tx W v0 P) (h1 : Tx W v1 Q) (hp : Ok P) (hq : Ok Q) (h : P = Q) :
    Calls Tryd.prog 11 #[v0, v1] W fun e w' => e = .returned (.bool true) ∧ Below W.heap.size W w' := by
  have := sameTexts_any v0 v1 P Q W h0.texts h1.texts hp.1 hq.1
  rw [decide_eq_true h] at this
  exact this
end Go.Proofs.YtdajacodfnidfaaDoor
