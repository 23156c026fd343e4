/- The statement on one's own memory, walked. -/
import Derived.Test.YtdajacodfnidfaaDoorOwn
import Derived.Maps.AppendAt
namespace Go.Proofs.YtdajacodfnidfaaDoor
open Go.RowKit Go.Shelf

theorem zone_of_got {W w' : World} {a : Addr} {o : Obj} {r : Option (List (List UInt8))} {e : Ending} (h : GotL (W.alloc o).heap.size a r e w') (hr : (resL r).length ≤ 100) (hb : Below (W.alloc o).heap.size (W.alloc o) w') :
    ∃ v n, e = .returned (.tuple #[v, resV a r]) ∧ Zone w' W.heap.size w'.heap.size v n ∧ n ≤ 100 ∧ Below W.heap.size W w' := by
  obtain ⟨v, h1, h2⟩ := h.owns
  have hn := below_new W o
  exact ⟨v, _, h1, Zone.of (owns_lower h2 hn.size), hr, hn.trans (hb.mono hn.size)⟩
theorem bound_len (l : List (List UInt8)) : (resL (bound l)).length ≤ 100 := by
  unfold bound
  split
  · next h => exact fits_length _ h
  · exact Nat.zero_le _
theorem joinFrom_fits : ∀ (ls : List (List (List UInt8))) (m r : List (List UInt8)), joinFrom m ls = some r → fitsB r = true
  | [], m, r, h => by
    unfold joinFrom at h
    split at h
    · next hf => cases h; exact hf
    · cases h
  | l :: ls, m, r, h => by
    unfold joinFrom at h
    split at h
    · exact joinFrom_fits ls _ r h
    · cases h
theorem join1_len (P : List (List UInt8)) : (resL (joinB [P])).length ≤ 100 := by
  cases h : joinB [P] with
  | none => exact Nat.zero_le _
  | some r => exact fits_length _ (joinFrom_fits [] (oneB P) r h)
theorem catZ2 (W : World) (a : Addr) (v0 v1 : Value) (P Q : List (List UInt8)) (h0 : Tx W v0 P) (h1 : Tx W v1 Q) (hp : Ok P) (hq : Ok Q) (hE : Eb W a) :
    Calls Tryd.prog 10 #[.slice (some ⟨W.heap.size, 0, none⟩) 2 2] (W.alloc (.cells #[v0, v1] 22)) fun e w' => ∃ v n ev, e = .returned (.tuple #[v, ev]) ∧ Zone w' W.heap.size w'.heap.size v n ∧ n ≤ 100 ∧ Below W.heap.size W w' := by
  have hb := below_new W (.cells #[v0, v1] 22)
  have h := cat_any _ [P, Q] _ a (Tss.two W v0 v1 P Q h0 h1) (by simp) (ok_two hp hq).1 (hE.below hb hE.pos)
  refine h.mono fun e w' ⟨h2, h3⟩ => ?_
  obtain ⟨v, n, h4, h5⟩ := zone_of_got h2 (bound_len _) h3
  exact ⟨v, n, _, h4, h5⟩
theorem ok_one {P : List (List UInt8)} (hp : Ok P) : (∀ l ∈ [P], l.length < 4294967296) ∧ ∀ l ∈ [P], ∀ s ∈ l, s.length < 4294967296 := by
  refine ⟨fun l hl => ?_, fun l hl => ?_⟩
  all_goals
    simp at hl
    subst hl
  · exact hp.1
  · exact hp.2
theorem catZ1 (W : World) (a : Addr) (v0 : Value) (P : List (List UInt8)) (h0 : Tx W v0 P) (hp : Ok P) (hE : Eb W a) :
    Calls Tryd.prog 10 #[.slice (some ⟨W.heap.size, 0, none⟩) 1 1] (W.alloc (.cells #[v0] 22)) fun e w' => ∃ v n ev, e = .returned (.tuple #[v, ev]) ∧ Zone w' W.heap.size w'.heap.size v n ∧ n ≤ 100 ∧ Below W.heap.size W w' := by
  have hb := below_new W (.cells #[v0] 22)
  have h := cat_any _ [P] _ a (Tss.one W v0 P h0) (by simp) (ok_one hp).1 (hE.below hb hE.pos)
  refine h.mono fun e w' ⟨h2, h3⟩ => ?_
  obtain ⟨v, n, h4, h5⟩ := zone_of_got h2 (bound_len _) h3
  exact ⟨v, n, _, h4, h5⟩
theorem joinZ1 (W : World) (a : Addr) (v0 : Value) (P : List (List UInt8)) (h0 : Tx W v0 P) (hp : Ok P) (hE : Eb W a) :
    Calls Tryd.prog 13 #[.slice (some ⟨W.heap.size, 0, none⟩) 1 1] (W.alloc (.cells #[v0] 22)) fun e w' => ∃ v n ev, e = .returned (.tuple #[v, ev]) ∧ Zone w' W.heap.size w'.heap.size v n ∧ n ≤ 100 ∧ Below W.heap.size W w' := by
  have hb := below_new W (.cells #[v0] 22)
  have h := join_any _ [P] _ a (Tss.one W v0 P h0) (by simp) (ok_one hp).1 (ok_one hp).2 (hE.below hb hE.pos)
  refine h.mono fun e w' ⟨h2, h3⟩ => ?_
  obtain ⟨v, n, h4, h5⟩ := zone_of_got h2 (join1_len _) h3
  exact ⟨v, n, _, h4, h5⟩
theorem pickZ (W : World) (v : Value) (P : List (List UInt8)) (h : Tx W v P) (hl : P.length < 4294967296) :
    Calls Tryd.prog 19 #[v, .int .i64 1] W fun e w' => ∃ v' n, e = .returned v' ∧ Zone w' W.heap.size w'.heap.size v' n ∧ n ≤ 100 ∧ Below W.heap.size W w' := by
  cases P with
  | nil => exact (pick_no v [] 1 W h (Or.inr (by decide)) (by decide) (by decide)).mono fun e w' ⟨h1, h2⟩ => ⟨_, 0, h1, Zone.of (xs := []) ⟨rfl, .inl ⟨rfl, rfl⟩⟩, by omega, by rw [h2]; exact Below.refl _ _⟩
  | cons x P =>
    refine (pick_yes v (x :: P) 0 x W h rfl hl).mono fun e w' ⟨h1, h2⟩ => ?_
    subst h2
    exact ⟨_, 1, h1, Zone.of (owns_one W x), by omega, below_new _ _⟩

/-- A row with one text more behind it, cut off again. -/
theorem behind_row {W : World} {B : Nat} {v : Value} {A : List (List UInt8)} {b : List UInt8} (h : W.ownsRow B 9 1 v (A.length + 1) (txV A ++ txV [b])) :
    ∃ g cap, v = .slice (some ⟨g, 0, none⟩) (A.length + 1) cap ∧ A.length + 1 ≤ cap ∧ g < W.heap.size ∧ Tx W (.slice (some ⟨g, 0, none⟩) A.length cap) A ∧ W.cell? ⟨g, A.length, none⟩ = some (.string ⟨b.toArray⟩) := by
  rw [← txV_append] at h
  have e : A.length + 1 = (A ++ [b]).length := by simp
  rw [e] at h
  obtain ⟨g, o, cap, hv, h1, h2, h3⟩ := (Tx.owned h).inRow (by simp)
  have ho : o = 0 := by
    rcases h.2 with ⟨h0, _⟩ | ⟨g', cap', cur, h0, _⟩
    · rw [hv] at h0; cases h0
    · rw [hv] at h0; cases h0; rfl
  subst ho
  rw [← e] at hv h1
  refine ⟨g, cap, hv, h1, h2, .inr ⟨_, cap, rfl, by omega, fun _ => ⟨g, 0, rfl, h2, fun k p hp => h3 k p ?_⟩⟩, ?_⟩
  · rw [List.getElem?_append_left (List.getElem?_eq_some_iff.1 hp).1]
    exact hp
  · have := h3 A.length b (by simp)
    simpa using this
end Go.Proofs.YtdajacodfnidfaaDoor
