/- Words and commands that are the same. -/
import Derived.Test.YtlihkblllakhmaaGreatDoorSc2
import Derived.BigQuiet
namespace Go.Proofs.YtlihkblllakhmaaGreatDoor
open Go.RowKit
attribute [local go_sem] Oper.semAt_some

/-- The document's words, as they are read. -/
structure QdAt (W : World) (v : Value) (K : List (Value × Wd)) : Prop where
  row : RowAt W v 3 (K.map wdC)
  parts : ∀ q ∈ K, PtsAt W q.1 q.2.parts
theorem QdOwn.at_ {W : World} {B : Nat} {v : Value} {K : List (Value × Wd)} (h : QdOwn W B v K) : QdAt W v K := by
  have e : wdCs K = (K.map wdC).flatMap id := by simp [wdCs, List.flatMap_map]
  have h' : W.ownsRow B 48 3 v (K.map wdC).length ((K.map wdC).flatMap id) := by
    rw [List.length_map, ← e]
    exact h.row
  exact ⟨RowAt.owned h' (fun cs hcs => by obtain ⟨x, _, rfl⟩ := List.mem_map.1 hcs; rfl), fun q hq => (h.parts q hq).at_⟩
theorem QdAt.below {W W' : World} {v : Value} {K : List (Value × Wd)} (h : QdAt W v K) (hb : Below W.heap.size W W') : QdAt W' v K := ⟨h.row.below hb (Nat.le_refl _), fun q hq => RowAt.below (h.parts q hq) hb (Nat.le_refl _)⟩
theorem QdAt.form {W : World} {v : Value} {K : List (Value × Wd)} (h : QdAt W v K) : ∃ ad cap, v = .slice ad K.length cap := by
  have := h.row.form
  simpa using this
/-- The document's commands, as they are read. -/
structure QmAt (W : World) (v : Value) (K : List Mc) : Prop where
  row : RowAt W v 2 (K.map cmC)
  words : ∀ q ∈ K, QdAt W q.1 q.2.2
theorem QmOwn.at_ {W : World} {B : Nat} {v : Value} {K : List Mc} (h : QmOwn W B v K) : QmAt W v K := by
  have e : cmCs K = (K.map cmC).flatMap id := by simp [cmCs, List.flatMap_map]
  have h' : W.ownsRow B 51 2 v (K.map cmC).length ((K.map cmC).flatMap id) := by
    rw [List.length_map, ← e]
    exact h.row
  exact ⟨RowAt.owned h' (fun cs hcs => by obtain ⟨x, _, rfl⟩ := List.mem_map.1 hcs; rfl), fun q hq => (h.words q hq).at_⟩
theorem QmAt.below {W W' : World} {v : Value} {K : List Mc} (h : QmAt W v K) (hb : Below W.heap.size W W') : QmAt W' v K := ⟨h.row.below hb (Nat.le_refl _), fun q hq => (h.words q hq).below hb⟩
theorem QmAt.form {W : World} {v : Value} {K : List Mc} (h : QmAt W v K) : ∃ ad cap, v = .slice ad K.length cap := by
  have := h.row.form
  simpa using this
set_option maxRecDepth 100000 in
set_option maxHeartbeats 8000000 in
theorem sameWord_any (W : World) (n : Nat) (b : Bool) (v1 v2 : Value) (ps : List Pt) (h1 : PtsAt W v1 ps) (h2 : PtsAt W v2 ps) (hps : ps.length ≤ 10000) :
    Calls Tryz.prog 28 #[.agg #[.int .i64 (n : Nat), .bool b, v1], .agg #[.int .i64 (n : Nat), .bool b, v2]] W fun e w' => e = .returned (.bool true) ∧ Below W.heap.size W w' := by
  obtain ⟨ad1, cap1, rfl⟩ := h1.form
  obtain ⟨ad2, cap2, rfl⟩ := h2.form
  have HG : Hid (∀ w, Below W.heap.size W w → ∀ i p, ps[i]? = some p → ∃ g1 o1 g2 o2, ad1 = some ⟨g1, o1, none⟩ ∧ ad2 = some ⟨g2, o2, none⟩ ∧ (w.cell? ⟨g1, o1 + i * 4, none⟩ = some (.int .i64 (p.kind : Nat)) ∧ w.cell? ⟨g1, o1 + i * 4 + 1, none⟩ = some (.int .i64 (p.pos : Nat)) ∧ w.cell? ⟨g1, o1 + i * 4 + 2, none⟩ = some (.int .i64 (p.n : Nat)) ∧ w.cell? ⟨g1, o1 + i * 4 + 3, none⟩ = some (str p.s)) ∧ (w.cell? ⟨g2, o2 + i * 4, none⟩ = some (.int .i64 (p.kind : Nat)) ∧ w.cell? ⟨g2, o2 + i * 4 + 1, none⟩ = some (.int .i64 (p.pos : Nat)) ∧ w.cell? ⟨g2, o2 + i * 4 + 2, none⟩ = some (.int .i64 (p.n : Nat)) ∧ w.cell? ⟨g2, o2 + i * 4 + 3, none⟩ = some (str p.s)) ∧ g1 < W.heap.size ∧ g2 < W.heap.size) := fun w hb i p hp => by
    obtain ⟨g1, o1, c1, hv1, _, hg1, x0, x1, x2, x3⟩ := h1.get hp
    obtain ⟨g2, o2, c2, hv2, _, hg2, y0, y1, y2, y3⟩ := h2.get hp
    injection hv1 with e1 _ _
    injection hv2 with e2 _ _
    exact ⟨g1, o1, g2, o2, e1, e2, ⟨(hb.cell hg1).trans x0, (hb.cell hg1).trans x1, (hb.cell hg1).trans x2, (hb.cell hg1).trans x3⟩, ⟨(hb.cell hg2).trans y0, (hb.cell hg2).trans y1, (hb.cell hg2).trans y2, (hb.cell hg2).trans y3⟩, hg1, hg2⟩
  clear h1 h2
  have n1 : ((n : Int) != (n : Int)) = false := by simp
  have n2 : (b != b) = false := by simp
  have n3 : ((ps.length : Int) != (ps.length : Int)) = false := by simp
  go_enter Tryz.func28, Tryz.ntmps28
  go_wp2_with fail
  obtain ⟨w1, hw1⟩ : ∃ w1, w1 = (W.alloc (.cells #[.int .i64 (n : Nat), .bool b, .slice ad1 ps.length cap1] 48)).alloc (.cells #[.int .i64 (n : Nat), .bool b, .slice ad2 ps.length cap2] 48) := ⟨_, rfl⟩
  have k1 : Cel w1 W.heap.size 48 #[.int .i64 (n : Nat), .bool b, .slice ad1 ps.length cap1] := by
    rw [hw1]
    exact (Cel.new W _ _).below (below_new _ _) (by simp)
  have k2 : Cel w1 (W.heap.size + 1) 48 #[.int .i64 (n : Nat), .bool b, .slice ad2 ps.length cap2] := by
    rw [hw1]
    have := Cel.new (W.alloc (.cells #[.int .i64 (n : Nat), .bool b, .slice ad1 ps.length cap1] 48)) 48 #[.int .i64 (n : Nat), .bool b, .slice ad2 ps.length cap2]
    rw [show (W.alloc (.cells #[.int .i64 (n : Nat), .bool b, .slice ad1 ps.length cap1] 48)).heap.size = W.heap.size + 1 by simp] at this
    exact this
  have k3 : Below W.heap.size W w1 := by
    rw [hw1]
    exact (below_new W _).alloc (by simp) _
  rw [← hw1]
  clear hw1
  go_loopw [5] (fun v5 wr => ∃ i : Nat, i ≤ ps.length ∧ v5 = .int .i64 i ∧ Hid (Cel wr W.heap.size 48 #[.int .i64 (n : Nat), .bool b, .slice ad1 ps.length cap1]) ∧ Hid (Cel wr (W.heap.size + 1) 48 #[.int .i64 (n : Nat), .bool b, .slice ad2 ps.length cap2]) ∧ Hid (Below W.heap.size W wr)) (fun v5 _ => ps.length - (intOf v5).toNat)
  case atStart => exact ⟨0, Nat.zero_le _, rfl, k1, k2, k3⟩
  case round =>
    obtain ⟨i, hi', rfl, H1, H2, HB⟩ := hrel
    have c1 := H1.out.cell 2
    have c2 := H2.out.cell 2
    have hl2 := H2.out.lt
    by_cases hlt : i < ps.length
    · have hlt' : (i : Int) < (ps.length : Nat) := by omega
      obtain ⟨g1, o1, g2, o2, rfl, rfl, ⟨x0, x1, x2, x3⟩, ⟨y0, y1, y2, y3⟩, hg1, hg2⟩ := HG.out wr HB.out i ps[i] (List.getElem?_eq_getElem hlt)
      generalize ps[i] = p at x0 x1 x2 x3 y0 y1 y2 y3
      obtain ⟨pk, pp, pn, pt⟩ := p
      simp only at x0 x1 x2 x3 y0 y1 y2 y3
      have hg2' : g2 < wr.heap.size := by omega
      have ya0 := fun ob => ((below_new wr ob).cell (p := ⟨g2, o2 + i * 4, none⟩) hg2').trans y0
      have ya1 := fun ob => ((below_new wr ob).cell (p := ⟨g2, o2 + i * 4 + 1, none⟩) hg2').trans y1
      have ya2 := fun ob => ((below_new wr ob).cell (p := ⟨g2, o2 + i * 4 + 2, none⟩) hg2').trans y2
      have ya3 := fun ob => ((below_new wr ob).cell (p := ⟨g2, o2 + i * 4 + 3, none⟩) hg2').trans y3
      have m1 : ((pk : Int) != (pk : Int)) = false := by simp
      have m2 : ((pp : Int) != (pp : Int)) = false := by simp
      have m3 : ((pn : Int) != (pn : Int)) = false := by simp
      go_wp2_with fail
      have hk := ((Below.refl wr.heap.size wr).alloc (Nat.le_refl _) (.cells #[.int .i64 (pk : Nat), .int .i64 (pp : Nat), .int .i64 (pn : Nat), str pt] 81)).alloc (by simp) (.cells #[.int .i64 (pk : Nat), .int .i64 (pp : Nat), .int .i64 (pn : Nat), str pt] 81)
      exact ⟨⟨i + 1, by omega, rfl, Cel.below H1.out hk (Cel.lt H1.out), Cel.below H2.out hk (Cel.lt H2.out), HB.out.trans (Below.mono hk HB.out.size)⟩, by simp only [intOf]; omega⟩
    · have hlt' : ¬ ((i : Int) < (ps.length : Nat)) := by omega
      go_wp2_with fail
      go_ret
      exact ⟨rfl, HB.out⟩
end Go.Proofs.YtlihkblllakhmaaGreatDoor
