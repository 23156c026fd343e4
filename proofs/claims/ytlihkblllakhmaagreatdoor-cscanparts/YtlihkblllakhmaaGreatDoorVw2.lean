/- Words of commands that are known, as they are read. -/
import Derived.Test.YtlihkblllakhmaaGreatDoorVw
namespace Go.Proofs.YtlihkblllakhmaaGreatDoor
open Go.RowKit

/-- What lies in memory of one word of some. -/
theorem WdsAt.word {W : World} {v : Value} {K : List (Value × Wd)} {ws : List Wd} (h : WdsAt W v K) (hK : K.map Prod.snd = ws) {i : Nat} {w : Wd} (hi : ws[i]? = some w) : ∃ g o c pa pc, v = .slice (some ⟨g, o, none⟩) ws.length c ∧ W.cell? ⟨g, o + i * 3, none⟩ = some (.int .i64 (w.pos : Nat)) ∧ W.cell? ⟨g, o + i * 3 + 1, none⟩ = some (.bool w.braced) ∧ W.cell? ⟨g, o + i * 3 + 2, none⟩ = some (.slice pa w.parts.length pc) ∧ PtOwn W 0 (.slice pa w.parts.length pc) w.parts := by
  subst hK
  rw [List.getElem?_map] at hi
  obtain ⟨q, hq, rfl⟩ := Option.map_eq_some_iff.1 hi
  obtain ⟨g, o, c, hv, _, _, y0, y1, y2, hp⟩ := h.get hq
  obtain ⟨pa, pc, hpf⟩ := hp.form
  rw [hpf] at y2 hp
  exact ⟨g, o, c, pa, pc, by rw [List.length_map]; exact hv, y0, y1, y2, hp⟩
/-- The words of one command of some. -/
theorem CmsAt.cmd {W : World} {v : Value} {K : List Mc} {ms : List Cm} (h : CmsAt W v K) (hK : K.map toCm = ms) {i : Nat} {m : Cm} (hi : ms[i]? = some m) : ∃ g o c wv K', v = .slice (some ⟨g, o, none⟩) ms.length c ∧ W.cell? ⟨g, o + i * 2, none⟩ = some (.int .i64 (m.pos : Nat)) ∧ W.cell? ⟨g, o + i * 2 + 1, none⟩ = some wv ∧ WdsAt W wv K' ∧ K'.map Prod.snd = m.words := by
  subst hK
  rw [List.getElem?_map] at hi
  obtain ⟨q, hq, rfl⟩ := Option.map_eq_some_iff.1 hi
  obtain ⟨g, o, c, hv, _, _, y0, y1, hw⟩ := h.get hq
  exact ⟨g, o, c, q.1, q.2.2, by rw [List.length_map]; exact hv, y0, y1, hw, rfl⟩
/-- Three words of the first command; the second and the third. -/
theorem seen3 (W : World) (v : Value) (K : List Mc) (ms : List Cm) (n : Nat) (w0 w1 w2 : Wd) (h : CmsAt W v K) (hK : K.map toCm = ⟨n, [w0, w1, w2]⟩ :: ms) : ∃ g o c g1 o1 c1 pa pc pb pd, v = .slice (some ⟨g, o, none⟩) (ms.length + 1) c ∧ W.cell? ⟨g, o + 1, none⟩ = some (.slice (some ⟨g1, o1, none⟩) 3 c1) ∧ (W.cell? ⟨g1, o1 + 3, none⟩ = some (.int .i64 (w1.pos : Nat)) ∧ W.cell? ⟨g1, o1 + 4, none⟩ = some (.bool w1.braced) ∧ W.cell? ⟨g1, o1 + 5, none⟩ = some (.slice pa w1.parts.length pc)) ∧ PtOwn W 0 (.slice pa w1.parts.length pc) w1.parts ∧ (W.cell? ⟨g1, o1 + 6, none⟩ = some (.int .i64 (w2.pos : Nat)) ∧ W.cell? ⟨g1, o1 + 7, none⟩ = some (.bool w2.braced) ∧ W.cell? ⟨g1, o1 + 8, none⟩ = some (.slice pb w2.parts.length pd)) ∧ PtOwn W 0 (.slice pb w2.parts.length pd) w2.parts := by
  obtain ⟨g, o, c, wv, K', hv, _, x1, hw, hK'⟩ := h.cmd hK (i := 0) rfl
  obtain ⟨g1, o1, c1, pa, pc, hv1, y0, y1, y2, yp⟩ := hw.word hK' (i := 1) rfl
  obtain ⟨g2, o2, c2, pb, pd, hv2, z0, z1, z2, zp⟩ := hw.word hK' (i := 2) rfl
  rw [hv1] at hv2 x1
  simp at hv2
  obtain ⟨⟨rfl, rfl⟩, rfl⟩ := hv2
  exact ⟨g, o, c, g1, o1, c1, pa, pc, pb, pd, by simpa using hv, x1, ⟨y0, y1, y2⟩, yp, ⟨z0, z1, z2⟩, zp⟩
end Go.Proofs.YtlihkblllakhmaaGreatDoor
