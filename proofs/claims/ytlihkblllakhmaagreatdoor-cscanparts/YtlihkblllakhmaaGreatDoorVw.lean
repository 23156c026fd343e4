/- Commands, words and parts as they are read. -/
import Derived.Test.YtlihkblllakhmaaGreatDoorRd21
namespace Go.Proofs.YtlihkblllakhmaaGreatDoor
open Go.RowKit

theorem RowAt.get {W : World} {v : Value} {k : Nat} {css : List (List Value)} (h : RowAt W v k css) {i : Nat} {cs : List Value} (hi : css[i]? = some cs) : ∃ g o cap, v = .slice (some ⟨g, o, none⟩) css.length cap ∧ css.length ≤ cap ∧ g < W.heap.size ∧ ∀ j u, cs[j]? = some u → W.cell? ⟨g, o + i * k + j, none⟩ = some u := by
  rcases h with ⟨rfl, _⟩ | ⟨g, o, cap, hv, hc, hg, hx⟩
  · simp at hi
  · exact ⟨g, o, cap, hv, hc, hg, hx i cs hi⟩
/-- Parts that are read. -/
def PtsAt (W : World) (v : Value) (X : List Pt) : Prop := RowAt W v 4 (X.map ptC)
theorem PtsAt.own {W : World} {B : Nat} {v : Value} {X : List Pt} (h : PtOwn W B v X) : PtsAt W v X := by
  have e : ptCs X = (X.map ptC).flatMap id := by simp [ptCs, List.flatMap_map]
  have h' : W.ownsRow B 59 4 v (X.map ptC).length ((X.map ptC).flatMap id) := by
    rw [List.length_map, ← e]
    exact h
  exact RowAt.owned h' (fun cs hcs => by obtain ⟨x, _, rfl⟩ := List.mem_map.1 hcs; rfl)
theorem PtsAt.below {W W' : World} {B : Nat} {v : Value} {X : List Pt} (h : PtsAt W v X) (hb : Below B W W') (hB : W.heap.size ≤ B) : PtsAt W' v X := RowAt.below h hb hB
/-- Words that are read. -/
structure WdsAt (W : World) (v : Value) (K : List (Value × Wd)) : Prop where
  row : RowAt W v 3 (K.map wdC)
  parts : ∀ q ∈ K, PtOwn W 0 q.1 q.2.parts
theorem WdsAt.own {W : World} {B : Nat} {v : Value} {K : List (Value × Wd)} (h : WdOwn W B v K) : WdsAt W v K := by
  have e : wdCs K = (K.map wdC).flatMap id := by simp [wdCs, List.flatMap_map]
  have h' : W.ownsRow B 44 3 v (K.map wdC).length ((K.map wdC).flatMap id) := by
    rw [List.length_map, ← e]
    exact h.row
  exact ⟨RowAt.owned h' (fun cs hcs => by obtain ⟨x, _, rfl⟩ := List.mem_map.1 hcs; rfl), fun q hq => (h.parts q hq).lower (Nat.zero_le _)⟩
theorem WdsAt.below {W W' : World} {v : Value} {K : List (Value × Wd)} (h : WdsAt W v K) (hb : Below W.heap.size W W') : WdsAt W' v K := ⟨h.row.below hb (Nat.le_refl _), fun q hq => (h.parts q hq).below hb⟩
/-- Commands that are read. -/
structure CmsAt (W : World) (v : Value) (K : List Mc) : Prop where
  row : RowAt W v 2 (K.map cmC)
  words : ∀ q ∈ K, WdsAt W q.1 q.2.2
theorem CmsAt.own {W : World} {B : Nat} {v : Value} {K : List Mc} (h : CmOwn W B v K) : CmsAt W v K := by
  have e : cmCs K = (K.map cmC).flatMap id := by simp [cmCs, List.flatMap_map]
  have h' : W.ownsRow B 39 2 v (K.map cmC).length ((K.map cmC).flatMap id) := by
    rw [List.length_map, ← e]
    exact h.row
  exact ⟨RowAt.owned h' (fun cs hcs => by obtain ⟨x, _, rfl⟩ := List.mem_map.1 hcs; rfl), fun q hq => WdsAt.own (h.words q hq)⟩
theorem CmsAt.below {W W' : World} {v : Value} {K : List Mc} (h : CmsAt W v K) (hb : Below W.heap.size W W') : CmsAt W' v K := ⟨h.row.below hb (Nat.le_refl _), fun q hq => (h.words q hq).below hb⟩
theorem CmsAt.form {W : World} {v : Value} {K : List Mc} (h : CmsAt W v K) : ∃ ad cap, v = .slice ad K.length cap := by
  have := h.row.form
  simpa using this
theorem WdsAt.form {W : World} {v : Value} {K : List (Value × Wd)} (h : WdsAt W v K) : ∃ ad cap, v = .slice ad K.length cap := by
  have := h.row.form
  simpa using this
theorem PtsAt.form {W : World} {v : Value} {X : List Pt} (h : PtsAt W v X) : ∃ ad cap, v = .slice ad X.length cap := by
  have := RowAt.form h
  simpa using this
/-- One of the commands. -/
theorem CmsAt.get {W : World} {v : Value} {K : List Mc} (h : CmsAt W v K) {i : Nat} {q : Mc} (hi : K[i]? = some q) : ∃ g o cap, v = .slice (some ⟨g, o, none⟩) K.length cap ∧ K.length ≤ cap ∧ g < W.heap.size ∧ W.cell? ⟨g, o + i * 2, none⟩ = some (.int .i64 (q.2.1 : Nat)) ∧ W.cell? ⟨g, o + i * 2 + 1, none⟩ = some q.1 ∧ WdsAt W q.1 q.2.2 := by
  obtain ⟨g, o, cap, hv, hc, hg, hx⟩ := h.row.get (i := i) (cs := cmC q) (by rw [List.getElem?_map, hi]; rfl)
  rw [List.length_map] at hv hc
  exact ⟨g, o, cap, hv, hc, hg, hx 0 _ rfl, hx 1 _ rfl, h.words q (List.mem_of_getElem? hi)⟩
/-- One of the words. -/
theorem WdsAt.get {W : World} {v : Value} {K : List (Value × Wd)} (h : WdsAt W v K) {i : Nat} {q : Value × Wd} (hi : K[i]? = some q) : ∃ g o cap, v = .slice (some ⟨g, o, none⟩) K.length cap ∧ K.length ≤ cap ∧ g < W.heap.size ∧ W.cell? ⟨g, o + i * 3, none⟩ = some (.int .i64 (q.2.pos : Nat)) ∧ W.cell? ⟨g, o + i * 3 + 1, none⟩ = some (.bool q.2.braced) ∧ W.cell? ⟨g, o + i * 3 + 2, none⟩ = some q.1 ∧ PtOwn W 0 q.1 q.2.parts := by
  obtain ⟨g, o, cap, hv, hc, hg, hx⟩ := h.row.get (i := i) (cs := wdC q) (by rw [List.getElem?_map, hi]; rfl)
  rw [List.length_map] at hv hc
  exact ⟨g, o, cap, hv, hc, hg, hx 0 _ rfl, hx 1 _ rfl, hx 2 _ rfl, h.parts q (List.mem_of_getElem? hi)⟩
/-- One of the parts. -/
theorem PtsAt.get {W : World} {v : Value} {X : List Pt} (h : PtsAt W v X) {i : Nat} {p : Pt} (hi : X[i]? = some p) : ∃ g o cap, v = .slice (some ⟨g, o, none⟩) X.length cap ∧ X.length ≤ cap ∧ g < W.heap.size ∧ W.cell? ⟨g, o + i * 4, none⟩ = some (.int .i64 (p.kind : Nat)) ∧ W.cell? ⟨g, o + i * 4 + 1, none⟩ = some (.int .i64 (p.pos : Nat)) ∧ W.cell? ⟨g, o + i * 4 + 2, none⟩ = some (.int .i64 (p.n : Nat)) ∧ W.cell? ⟨g, o + i * 4 + 3, none⟩ = some (str p.s) := by
  obtain ⟨g, o, cap, hv, hc, hg, hx⟩ := RowAt.get h (i := i) (cs := ptC p) (by rw [List.getElem?_map, hi]; rfl)
  rw [List.length_map] at hv hc
  exact ⟨g, o, cap, hv, hc, hg, hx 0 _ rfl, hx 1 _ rfl, hx 2 _ rfl, hx 3 _ rfl⟩
end Go.Proofs.YtlihkblllakhmaaGreatDoor
