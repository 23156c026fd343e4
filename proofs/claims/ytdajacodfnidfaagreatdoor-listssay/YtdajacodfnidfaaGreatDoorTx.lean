/- Slices of texts, nil ones told apart. -/
import Derived.Test.YtdajacodfnidfaaGreatDoorFirst
namespace Go.Proofs.YtdajacodfnidfaaGreatDoor
open Go.RowKit Go.Shelf

/-- The value is a slice of these texts; a nil one has neither items nor room. -/
def Tx (W : World) (v : Value) (ps : List (List UInt8)) : Prop :=
  (v = .slice none 0 0 ∧ ps = []) ∨
  ∃ (ad : Addr) (cap : Nat), v = .slice (some ad) ps.length cap ∧ ps.length ≤ cap ∧
    (ps ≠ [] → ∃ g o, ad = ⟨g, o, none⟩ ∧ g < W.heap.size ∧ ∀ k p, ps[k]? = some p → W.cell? ⟨g, o + k, none⟩ = some (.string ⟨p.toArray⟩))
theorem Tx.texts {W : World} {v : Value} {ps : List (List UInt8)} (h : Tx W v ps) : TxAt W v ps := by
  rcases h with ⟨rfl, rfl⟩ | ⟨ad, cap, rfl, h1, h2⟩
  · exact ⟨0, 0, none, 0, rfl, Nat.le_refl _, fun e => absurd rfl e, fun k p hp => by simp at hp⟩
  · by_cases hne : ps = []
    · subst hne
      exact ⟨0, 0, some ad, cap, rfl, h1, fun e => absurd rfl e, fun k p hp => by simp at hp⟩
    · obtain ⟨g, o, rfl, h3, h4⟩ := h2 hne
      exact ⟨g, o, _, cap, rfl, h1, fun _ => ⟨rfl, h3⟩, h4⟩
theorem Tx.below {W W' : World} {v : Value} {ps : List (List UInt8)} {B : Nat} (h : Tx W v ps) (hb : Below B W W') (hB : W.heap.size ≤ B) : Tx W' v ps := by
  rcases h with h | ⟨ad, cap, h1, h2, h3⟩
  · exact .inl h
  · refine .inr ⟨ad, cap, h1, h2, fun hne => ?_⟩
    obtain ⟨g, o, rfl, h4, h5⟩ := h3 hne
    exact ⟨g, o, rfl, Nat.lt_of_lt_of_le h4 hb.size, fun k p hp => (hb.cell (p := ⟨g, o + k, none⟩) (by show g < B; omega)).trans (h5 k p hp)⟩
theorem Tx.owned {W : World} {B : Nat} {v : Value} {ps : List (List UInt8)} (h : W.ownsRow B 9 1 v ps.length (txV ps)) : Tx W v ps := by
  rcases h.2 with ⟨hv, h0⟩ | ⟨g, cap, cur, hv, hb, hc, h1, _, h2, h3⟩
  · exact .inl ⟨hv, List.eq_nil_of_length_eq_zero h0⟩
  · refine .inr ⟨⟨g, 0, none⟩, cap, hv, h1, fun _ => ⟨g, 0, rfl, (Array.getElem?_eq_some_iff.1 hc).1, fun k p hp => ?_⟩⟩
    have hk := (List.getElem?_eq_some_iff.1 hp).1
    have e1 : W.cell? ⟨g, 0 + k, none⟩ = cur[k]? := by simp [World.cell?, hc]
    rw [e1, ← Array.getElem?_toList, ← List.getElem?_take_of_lt (show k < ps.length * 1 by omega), h3, txV, List.getElem?_map, hp]
    rfl
theorem Tx.form {W : World} {v : Value} {ps : List (List UInt8)} (h : Tx W v ps) : ∃ ad cap, v = .slice ad ps.length cap := by
  rcases h with ⟨rfl, rfl⟩ | ⟨ad, cap, rfl, _⟩
  · exact ⟨none, 0, rfl⟩
  · exact ⟨_, cap, rfl⟩
/-- Where it has items they lie in a row. -/
theorem Tx.inRow {W : World} {v : Value} {ps : List (List UInt8)} (h : Tx W v ps) (hne : ps ≠ []) : ∃ g o cap, v = .slice (some ⟨g, o, none⟩) ps.length cap ∧ ps.length ≤ cap ∧ g < W.heap.size ∧ ∀ k p, ps[k]? = some p → W.cell? ⟨g, o + k, none⟩ = some (.string ⟨p.toArray⟩) := by
  rcases h with ⟨_, h⟩ | ⟨ad, cap, h1, h2, h3⟩
  · exact absurd h hne
  · obtain ⟨g, o, rfl, h4, h5⟩ := h3 hne
    exact ⟨g, o, cap, h1, h2, h4, h5⟩
end Go.Proofs.YtdajacodfnidfaaGreatDoor
