/- Bare words, by the program and by the document. -/
import Derived.Test.YtlbdecohmjpgaaaDoorRf11
import Derived.Deep.Cut
import Derived.Deep.CutRange
import Derived.Deep.CutBlock
namespace Go.Proofs.YtlbdecohmjpgaaaDoor
open Go.RowKit
attribute [local go_sem] Oper.semAt_some

/-- A bare word's text. -/
def bareB (t : Tk) : Bool := t.kind == 13 && t.parts.length == 1 && ((t.parts[0]?).map (·.kind)).getD 0 == 1
def bareS (t : Tk) : List UInt8 := if bareB t then ((t.parts[0]?).map (·.s)).getD [] else []
theorem bare_cases (t : Tk) : (t.kind ≠ 13 ∧ bareB t = false ∧ bareS t = []) ∨ (t.kind = 13 ∧ t.parts.length ≠ 1 ∧ bareB t = false ∧ bareS t = []) ∨ (∃ p, t.kind = 13 ∧ t.parts = [p] ∧ p.kind ≠ 1 ∧ bareB t = false ∧ bareS t = []) ∨ (∃ p, t.kind = 13 ∧ t.parts = [p] ∧ p.kind = 1 ∧ bareB t = true ∧ bareS t = p.s) := by
  by_cases h1 : t.kind = 13
  · by_cases h2 : t.parts.length = 1
    · obtain ⟨p, hp⟩ := List.length_eq_one_iff.1 h2
      by_cases h3 : p.kind = 1
      · exact Or.inr (Or.inr (Or.inr ⟨p, h1, hp, h3, by simp [bareB, h1, hp, h3], by simp [bareS, bareB, h1, hp, h3]⟩))
      · exact Or.inr (Or.inr (Or.inl ⟨p, h1, hp, h3, by simp [bareB, h1, hp, h3], by simp [bareS, bareB, h1, hp, h3]⟩))
    · exact Or.inr (Or.inl ⟨h1, h2, by simp [bareB, h1, h2], by simp [bareS, bareB, h1, h2]⟩)
  · exact Or.inl ⟨h1, by simp [bareB, h1], by simp [bareS, bareB, h1]⟩
set_option maxRecDepth 100000 in
set_option maxHeartbeats 2000000 in
theorem bareA_any {W : World} {B : Nat} {v : Value} {t : Tk} (h : PtOwn W B v t.parts) :
    Calls Tryd.prog 14 #[.agg #[.int .i64 (t.kind : Nat), .int .i64 (t.pos : Nat), v]] W fun e w' => e = .returned (.tuple #[str (bareS t), .bool (bareB t)]) ∧ Below W.heap.size W w' := by
  obtain ⟨ad, cap, rfl⟩ := h.form
  rcases bare_cases t with ⟨h1, h2, h3⟩ | ⟨h1, h2, h3, h4⟩ | ⟨p, h1, h2, h3, h4, h5⟩ | ⟨p, h1, h2, h3, h4, h5⟩
  · rw [h2, h3]
    have q1 : ((t.kind : Int) == 13) = false := beq_eq_false_iff_ne.2 (by omega)
    have q2 : ¬ (t.kind : Int) = 13 := by omega
    have q3 : ¬ t.kind = 13 := h1
    clear h h1 h2 h3
    go_enter Tryd.func14, Tryd.ntmps14
    go_wp2_with fail
    go_ret2
    exact ⟨rfl, below_new _ _⟩
  · rw [h3, h4, h1]
    have q1 : ((t.parts.length : Int) == 1) = false := beq_eq_false_iff_ne.2 (by omega)
    have q2 : ¬ (t.parts.length : Int) = 1 := by omega
    have q3 : ¬ t.parts.length = 1 := h2
    clear h h1 h2 h3 h4
    go_enter Tryd.func14, Tryd.ntmps14
    go_wp2_with fail
    go_ret2
    exact ⟨rfl, below_new _ _⟩
  · rw [h4, h5, h1]
    rw [h2] at h ⊢
    obtain ⟨g, cap', hv, hg⟩ := h.get (by simp)
    obtain ⟨rfl, _, rfl⟩ := Value.slice.inj hv
    have c0 : W.cell? ⟨g, 0, none⟩ = some (.int .i64 (p.kind : Nat)) := hg 0 p rfl 0 _ rfl
    have hlt := World.block_lt_of_cell? W _ c0
    have q1 : ((p.kind : Int) == 1) = false := beq_eq_false_iff_ne.2 (by omega)
    simp only at hlt
    clear h h1 h2 h3 h4 h5 hg hv
    simp only [List.length_cons, List.length_nil, Nat.zero_add]
    go_enter Tryd.func14, Tryd.ntmps14
    go_wp2_with fail
    go_ret2
    exact ⟨rfl, below_new _ _⟩
  · rw [h4, h5, h1]
    rw [h2] at h ⊢
    obtain ⟨g, cap', hv, hg⟩ := h.get (by simp)
    obtain ⟨rfl, _, rfl⟩ := Value.slice.inj hv
    have c0 : W.cell? ⟨g, 0, none⟩ = some (.int .i64 1) := by rw [show (1 : Int) = ((1 : Nat) : Int) from rfl, ← h3]; exact hg 0 p rfl 0 _ rfl
    have c4 : W.cell? ⟨g, 4, none⟩ = some (str p.s) := hg 0 p rfl 4 _ rfl
    have hlt := World.block_lt_of_cell? W _ c0
    simp only at hlt
    clear h h1 h2 h3 h4 h5 hg hv
    simp only [List.length_cons, List.length_nil, Nat.zero_add]
    go_enter Tryd.func14, Tryd.ntmps14
    go_wp2_with fail
    go_ret2
    exact ⟨rfl, below_new _ _⟩
set_option maxRecDepth 100000 in
set_option maxHeartbeats 2000000 in
theorem bareR_any {W : World} {B : Nat} {v : Value} {t : Tk} (h : RPt W B v t.parts) :
    Calls Tryd.prog 15 #[.agg #[.int .i64 (t.kind : Nat), .int .i64 (t.pos : Nat), v]] W fun e w' => e = .returned (.tuple #[str (bareS t), .bool (bareB t)]) ∧ Below W.heap.size W w' := by
  obtain ⟨ad, cap, rfl⟩ := h.form
  rcases bare_cases t with ⟨h1, h2, h3⟩ | ⟨h1, h2, h3, h4⟩ | ⟨p, h1, h2, h3, h4, h5⟩ | ⟨p, h1, h2, h3, h4, h5⟩
  · rw [h2, h3]
    have q1 : ((t.kind : Int) == 13) = false := beq_eq_false_iff_ne.2 (by omega)
    have q2 : ¬ (t.kind : Int) = 13 := by omega
    have q3 : ¬ t.kind = 13 := h1
    clear h h1 h2 h3
    go_enter Tryd.func15, Tryd.ntmps15
    go_wp2_with fail
    go_ret2
    exact ⟨rfl, below_new _ _⟩
  · rw [h3, h4, h1]
    have q1 : ((t.parts.length : Int) == 1) = false := beq_eq_false_iff_ne.2 (by omega)
    have q2 : ¬ (t.parts.length : Int) = 1 := by omega
    have q3 : ¬ t.parts.length = 1 := h2
    clear h h1 h2 h3 h4
    go_enter Tryd.func15, Tryd.ntmps15
    go_wp2_with fail
    go_ret2
    exact ⟨rfl, below_new _ _⟩
  · rw [h4, h5, h1]
    rw [h2] at h ⊢
    obtain ⟨g, cap', hv, _, _, _, hg⟩ := h.get (by simp)
    obtain ⟨rfl, _, rfl⟩ := Value.slice.inj hv
    have c0 : W.cell? ⟨g, 0, none⟩ = some (.int .i64 (p.kind : Nat)) := hg 0 p rfl 0 _ rfl
    have hlt := World.block_lt_of_cell? W _ c0
    have q1 : ((p.kind : Int) == 1) = false := beq_eq_false_iff_ne.2 (by omega)
    simp only at hlt
    clear h h1 h2 h3 h4 h5 hg hv
    simp only [List.length_cons, List.length_nil, Nat.zero_add]
    go_enter Tryd.func15, Tryd.ntmps15
    go_wp2_with fail
    go_ret2
    exact ⟨rfl, below_new _ _⟩
  · rw [h4, h5, h1]
    rw [h2] at h ⊢
    obtain ⟨g, cap', hv, _, _, _, hg⟩ := h.get (by simp)
    obtain ⟨rfl, _, rfl⟩ := Value.slice.inj hv
    have c0 : W.cell? ⟨g, 0, none⟩ = some (.int .i64 1) := by rw [show (1 : Int) = ((1 : Nat) : Int) from rfl, ← h3]; exact hg 0 p rfl 0 _ rfl
    have c4 : W.cell? ⟨g, 4, none⟩ = some (str p.s) := hg 0 p rfl 4 _ rfl
    have hlt := World.block_lt_of_cell? W _ c0
    simp only at hlt
    clear h h1 h2 h3 h4 h5 hg hv
    simp only [List.length_cons, List.length_nil, Nat.zero_add]
    go_enter Tryd.func15, Tryd.ntmps15
    go_wp2_with fail
    go_ret2
    exact ⟨rfl, below_new _ _⟩
end Go.Proofs.YtlbdecohmjpgaaaDoor
