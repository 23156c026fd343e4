/- Words of commands that are known, as they are read. -/
import Derived.Test.YtlihkblllakhmaaGreatDoorRdE
/-! Commands, words and parts as they are read. -/
namespace Go.Proofs.YtlihkblllakhmaaGreatDoor
open Go.RowKit

theorem RowAt.get {W : World} {v : Value} {k : Nat} {css : List (List Value)} (h : RowAt W v k css) {i : Nat} {cs : List Value} (hi : css[i]? = some cs) : ∃ g o cap, v = .slice (some ⟨g, o, none⟩) css.length cap ∧ css.length ≤ cap ∧ g < W.heap.size ∧ ∀ j u, cs[j]? = some u → W.cell? ⟨g, o + i * k + j, none⟩ = some u := by
  rcases h with ⟨rfl, _⟩ | ⟨g, o, cap, hv, hc, hg, hx⟩
  · simp at hi
  · exact ⟨g, o, cap, hv, hc, hg, hx i cs hi⟩
/-- Parts that are read. -/
def PtsAt (W : World) (v : Value) (X : List Pt) : Prop := RowAt W v 4 (X.map ptC)
theorem PtsAt.own {W : World} {B : Nat} {v : Value} {X : List Pt} (h : PtOwn W B v X) : PtsAt W v X := by
  have e : ptCs X = (X.map ptC).flatMap id := by simp [ptCs, List.flatMap_map]
  have h' : W.ownsRow B 59 4 v (X.map ptC).length ((X.map ptC).flatMap id) := by
    rw [List.length_map, ← e]
    exact h
  exact RowAt.owned h' (fun cs hcs => by obtain ⟨x, _, rfl⟩ := List.mem_map.1 hcs; rfl)
theorem PtsAt.below {W W' : World} {B : Nat} {v : Value} {X : List Pt} (h : PtsAt W v X) (hb : Below B W W') (hB : W.heap.size ≤ B) : PtsAt W' v X := RowAt.below h hb hB
/-- Words that are read. -/
structure WdsAt (W : World) (v : Value) (K : List (Value × Wd)) : Prop where
  row : RowAt W v 3 (K.map wdC)
  parts : ∀ q ∈ K, PtOwn W 0 q.1 q.2.parts
theorem WdsAt.own {W : World} {B : Nat} {v : Value} {K : List (Value × Wd)} (h : WdOwn W B v K) : WdsAt W v K := by
  have e : wdCs K = (K.map wdC).flatMap id := by simp [wdCs, List.flatMap_map]
  have h' : W.ownsRow B 44 3 v (K.map wdC).length ((K.map wdC).flatMap id) := by
    rw [List.length_map, ← e]
    exact h.row
  exact ⟨RowAt.owned h' (fun cs hcs => by obtain ⟨x, _, rfl⟩ := List.mem_map.1 hcs; rfl), fun q hq => (h.parts q hq).lower (Nat.zero_le _)⟩
theorem WdsAt.below {W W' : World} {v : Value} {K : List (Value × Wd)} (h : WdsAt W v K) (hb : Below W.heap.size W W') : WdsAt W' v K := ⟨h.row.below hb (Nat.le_refl _), fun q hq => (h.parts q hq).below hb⟩
/-- Commands that are read. -/
structure CmsAt (W : World) (v : Value) (K : List Mc) : Prop where
  row : RowAt W v 2 (K.map cmC)
  words : ∀ q ∈ K, WdsAt W q.1 q.2.2
theorem CmsAt.own {W : World} {B : Nat} {v : Value} {K : List Mc} (h : CmOwn W B v K) : CmsAt W v K := by
  have e : cmCs K = (K.map cmC).flatMap id := by simp [cmCs, List.flatMap_map]
  have h' : W.ownsRow B 39 2 v (K.map cmC).length ((K.map cmC).flatMap id) := by
    rw [List.length_map, ← e]
    exact h.row
  exact ⟨RowAt.owned h' (fun cs hcs => by obtain ⟨x, _, rfl⟩ := List.mem_map.1 hcs; rfl), fun q hq => WdsAt.own (h.words q hq)⟩
theorem CmsAt.below {W W' : World} {v : Value} {K : List Mc} (h : CmsAt W v K) (hb : Below W.heap.size W W') : CmsAt W' v K := ⟨h.row.below hb (Nat.le_refl _), fun q hq => (h.words q hq).below hb⟩
theorem CmsAt.form {W : World} {v : Value} {K : List Mc} (h : CmsAt W v K) : ∃ ad cap, v = .slice ad K.length cap := by
  have := h.row.form
  simpa using this
theorem WdsAt.form {W : World} {v : Value} {K : List (Value × Wd)} (h : WdsAt W v K) : ∃ ad cap, v = .slice ad K.length cap := by
  have := h.row.form
  simpa using this
theorem PtsAt.form {W : World} {v : Value} {X : List Pt} (h : PtsAt W v X) : ∃ ad cap, v = .slice ad X.length cap := by
  have := RowAt.form h
  simpa using this
/-- One of the commands. -/
theorem CmsAt.get {W : World} {v : Value} {K : List Mc} (h : CmsAt W v K) {i : Nat} {q : Mc} (hi : K[i]? = some q) : ∃ g o cap, v = .slice (some ⟨g, o, none⟩) K.length cap ∧ K.length ≤ cap ∧ g < W.heap.size ∧ W.cell? ⟨g, o + i * 2, none⟩ = some (.int .i64 (q.2.1 : Nat)) ∧ W.cell? ⟨g, o + i * 2 + 1, none⟩ = some q.1 ∧ WdsAt W q.1 q.2.2 := by
  obtain ⟨g, o, cap, hv, hc, hg, hx⟩ := h.row.get (i := i) (cs := cmC q) (by rw [List.getElem?_map, hi]; rfl)
  rw [List.length_map] at hv hc
  exact ⟨g, o, cap, hv, hc, hg, hx 0 _ rfl, hx 1 _ rfl, h.words q (List.mem_of_getElem? hi)⟩
/-- One of the words. -/
theorem WdsAt.get {W : World} {v : Value} {K : List (Value × Wd)} (h : WdsAt W v K) {i : Nat} {q : Value × Wd} (hi : K[i]? = some q) : ∃ g o cap, v = .slice (some ⟨g, o, none⟩) K.length cap ∧ K.length ≤ cap ∧ g < W.heap.size ∧ W.cell? ⟨g, o + i * 3, none⟩ = some (.int .i64 (q.2.pos : Nat)) ∧ W.cell? ⟨g, o + i * 3 + 1, none⟩ = some (.bool q.2.braced) ∧ W.cell? ⟨g, o + i * 3 + 2, none⟩ = some q.1 ∧ PtOwn W 0 q.1 q.2.parts := by
  obtain ⟨g, o, cap, hv, hc, hg, hx⟩ := h.row.get (i := i) (cs := wdC q) (by rw [List.getElem?_map, hi]; rfl)
  rw [List.length_map] at hv hc
  exact ⟨g, o, cap, hv, hc, hg, hx 0 _ rfl, hx 1 _ rfl, hx 2 _ rfl, h.parts q (List.mem_of_getElem? hi)⟩
/-- One of the parts. -/
theorem PtsAt.get {W : World} {v : Value} {X : List Pt} (h : PtsAt W v X) {i : Nat} {p : Pt} (hi : X[i]? = some p) : ∃ g o cap, v = .slice (some ⟨g, o, none⟩) X.length cap ∧ X.length ≤ cap ∧ g < W.heap.size ∧ W.cell? ⟨g, o + i * 4, none⟩ = some (.int .i64 (p.kind : Nat)) ∧ W.cell? ⟨g, o + i * 4 + 1, none⟩ = some (.int .i64 (p.pos : Nat)) ∧ W.cell? ⟨g, o + i * 4 + 2, none⟩ = some (.int .i64 (p.n : Nat)) ∧ W.cell? ⟨g, o + i * 4 + 3, none⟩ = some (str p.s) := by
  obtain ⟨g, o, cap, hv, hc, hg, hx⟩ := RowAt.get h (i := i) (cs := ptC p) (by rw [List.getElem?_map, hi]; rfl)
  rw [List.length_map] at hv hc
  exact ⟨g, o, cap, hv, hc, hg, hx 0 _ rfl, hx 1 _ rfl, hx 2 _ rfl, hx 3 _ rfl⟩
end Go.Proofs.YtlihkblllakhmaaGreatDoor
namespace Go.Proofs.YtlihkblllakhmaaGreatDoor
open Go.RowKit

/-- What lies in memory of one word of some. -/
theorem WdsAt.word {W : World} {v : Value} {K : List (Value × Wd)} {ws : List Wd} (h : WdsAt W v K) (hK : K.map Prod.snd = ws) {i : Nat} {w : Wd} (hi : ws[i]? = some w) : ∃ g o c pa pc, v = .slice (some ⟨g, o, none⟩) ws.length c ∧ W.cell? ⟨g, o + i * 3, none⟩ = some (.int .i64 (w.pos : Nat)) ∧ W.cell? ⟨g, o + i * 3 + 1, none⟩ = some (.bool w.braced) ∧ W.cell? ⟨g, o + i * 3 + 2, none⟩ = some (.slice pa w.parts.length pc) ∧ PtOwn W 0 (.slice pa w.parts.length pc) w.parts := by
  subst hK
  rw [List.getElem?_map] at hi
  obtain ⟨q, hq, rfl⟩ := Option.map_eq_some_iff.1 hi
  obtain ⟨g, o, c, hv, _, _, y0, y1, y2, hp⟩ := h.get hq
  obtain ⟨pa, pc, hpf⟩ := hp.form
  rw [hpf] at y2 hp
  exact ⟨g, o, c, pa, pc, by rw [List.length_map]; exact hv, y0, y1, y2, hp⟩
/-- The words of one command of some. -/
theorem CmsAt.cmd {W : World} {v : Value} {K : List Mc} {ms : List Cm} (h : CmsAt W v K) (hK : K.map toCm = ms) {i : Nat} {m : Cm} (hi : ms[i]? = some m) : ∃ g o c wv K', v = .slice (some ⟨g, o, none⟩) ms.length c ∧ W.cell? ⟨g, o + i * 2, none⟩ = some (.int .i64 (m.pos : Nat)) ∧ W.cell? ⟨g, o + i * 2 + 1, none⟩ = some wv ∧ WdsAt W wv K' ∧ K'.map Prod.snd = m.words := by
  subst hK
  rw [List.getElem?_map] at hi
  obtain ⟨q, hq, rfl⟩ := Option.map_eq_some_iff.1 hi
  obtain ⟨g, o, c, hv, _, _, y0, y1, hw⟩ := h.get hq
  exact ⟨g, o, c, q.1, q.2.2, by rw [List.length_map]; exact hv, y0, y1, hw, rfl⟩
/-- Three words of the first command; the second and the third. -/
theorem seen3 (W : World) (v : Value) (K : List Mc) (ms : List Cm) (n : Nat) (w0 w1 w2 : Wd) (h : CmsAt W v K) (hK : K.map toCm = ⟨n, [w0, w1, w2]⟩ :: ms) : ∃ g o c g1 o1 c1 pa pc pb pd, v = .slice (some ⟨g, o, none⟩) (ms.length + 1) c ∧ W.cell? ⟨g, o + 1, none⟩ = some (.slice (some ⟨g1, o1, none⟩) 3 c1) ∧ (W.cell? ⟨g1, o1 + 3, none⟩ = some (.int .i64 (w1.pos : Nat)) ∧ W.cell? ⟨g1, o1 + 4, none⟩ = some (.bool w1.braced) ∧ W.cell? ⟨g1, o1 + 5, none⟩ = some (.slice pa w1.parts.length pc)) ∧ PtOwn W 0 (.slice pa w1.parts.length pc) w1.parts ∧ (W.cell? ⟨g1, o1 + 6, none⟩ = some (.int .i64 (w2.pos : Nat)) ∧ W.cell? ⟨g1, o1 + 7, none⟩ = some (.bool w2.braced) ∧ W.cell? ⟨g1, o1 + 8, none⟩ = some (.slice pb w2.parts.length pd)) ∧ PtOwn W 0 (.slice pb w2.parts.length pd) w2.parts := by
  obtain ⟨g, o, c, wv, K', hv, _, x1, hw, hK'⟩ := h.cmd hK (i := 0) rfl
  obtain ⟨g1, o1, c1, pa, pc, hv1, y0, y1, y2, yp⟩ := hw.word hK' (i := 1) rfl
  obtain ⟨g2, o2, c2, pb, pd, hv2, z0, z1, z2, zp⟩ := hw.word hK' (i := 2) rfl
  rw [hv1] at hv2 x1
  simp at hv2
  obtain ⟨⟨rfl, rfl⟩, rfl⟩ := hv2
  exact ⟨g, o, c, g1, o1, c1, pa, pc, pb, pd, by simpa using hv, x1, ⟨y0, y1, y2⟩, yp, ⟨z0, z1, z2⟩, zp⟩
end Go.Proofs.YtlihkblllakhmaaGreatDoor
