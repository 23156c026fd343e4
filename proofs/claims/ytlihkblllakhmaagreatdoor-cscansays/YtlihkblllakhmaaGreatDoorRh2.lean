/- A word's text, as the document has it. -/
import Derived.Test.YtlihkblllakhmaaGreatDoorRdE
import Derived.Test.YtlihkblllakhmaaGreatDoorVwA
namespace Go.Proofs.YtlihkblllakhmaaGreatDoor
open Go.RowKit
attribute [local go_sem] Oper.semAt_some

theorem qtext_many (W : World) (n k : Nat) (b : Bool) (pa : Option Addr) (pc : Nat) (hk : k ≠ 1) :
    Calls Tryz.prog 14 #[.agg #[.int .i64 (n : Nat), .bool b, .slice pa k pc]] W fun e w' => e = .returned (.tuple #[.string ⟨#[]⟩, .bool false]) ∧ Below W.heap.size W w' := by
  have h1 : ((k : Int) == 1) = false := by simp; omega
  have h2 : ¬ ((k : Int) = 1) := by omega
  have h3 : decide ((k : Int) = 1) = false := by simp; omega
  go_enter Tryz.func14, Tryz.ntmps14
  go_wp2_with fail
  go_ret2
  exact ⟨rfl, below_new W _⟩
theorem qtext_one (W : World) (n : Nat) (b : Bool) (g o pc : Nat) (t : List UInt8) (hg : g < W.heap.size) (h0 : W.cell? ⟨g, o, none⟩ = some (.int .i64 1)) (h3 : W.cell? ⟨g, o + 3, none⟩ = some (str t)) :
    Calls Tryz.prog 14 #[.agg #[.int .i64 (n : Nat), .bool b, .slice (some ⟨g, o, none⟩) 1 pc]] W fun e w' => e = .returned (.tuple #[str t, .bool true]) ∧ Below W.heap.size W w' := by
  have hn : ¬ W.heap.size = g := by omega
  have hn' : ¬ g = W.heap.size := by omega
  have d0 : (W.alloc (.cells #[.int .i64 (n : Nat), .bool b, .slice (some ⟨g, o, none⟩) 1 pc] 48)).cell? ⟨g, o, none⟩ = some (.int .i64 1) := ((below_new W _).cell hg).trans h0
  have d3 : (W.alloc (.cells #[.int .i64 (n : Nat), .bool b, .slice (some ⟨g, o, none⟩) 1 pc] 48)).cell? ⟨g, o + 3, none⟩ = some (str t) := ((below_new W _).cell hg).trans h3
  go_enter Tryz.func14, Tryz.ntmps14
  go_wp2_with fail
  go_ret2
  exact ⟨rfl, below_new W _⟩
theorem qtext_other (W : World) (n k : Nat) (b : Bool) (g o pc : Nat) (hg : g < W.heap.size) (hk : k ≠ 1) (h0 : W.cell? ⟨g, o, none⟩ = some (.int .i64 (k : Nat))) :
    Calls Tryz.prog 14 #[.agg #[.int .i64 (n : Nat), .bool b, .slice (some ⟨g, o, none⟩) 1 pc]] W fun e w' => e = .returned (.tuple #[.string ⟨#[]⟩, .bool false]) ∧ Below W.heap.size W w' := by
  have h1 : ((k : Int) == 1) = false := by simp; omega
  have h2 : ¬ ((k : Int) = 1) := by omega
  have h3 : decide ((k : Int) = 1) = false := by simp; omega
  have h4 : ((k : Int) != 1) = true := by simp; omega
  have hn : ¬ W.heap.size = g := by omega
  have hn' : ¬ g = W.heap.size := by omega
  have d0 : (W.alloc (.cells #[.int .i64 (n : Nat), .bool b, .slice (some ⟨g, o, none⟩) 1 pc] 48)).cell? ⟨g, o, none⟩ = some (.int .i64 (k : Nat)) := ((below_new W _).cell hg).trans h0
  go_enter Tryz.func14, Tryz.ntmps14
  go_wp2_with fail
  go_ret2
  exact ⟨rfl, below_new W _⟩
theorem qtext_any {W : World} {n pc : Nat} {b : Bool} {pa : Option Addr} {ps : List Pt} (h : PtsAt W (.slice pa ps.length pc) ps) :
    Calls Tryz.prog 14 #[.agg #[.int .i64 (n : Nat), .bool b, .slice pa ps.length pc]] W fun e w' => e = .returned (.tuple (txtV (textL ⟨n, b, ps⟩))) ∧ Below W.heap.size W w' := by
  match ps, h with
  | [], _ => exact qtext_many W n 0 b pa pc (by omega)
  | [p], h =>
    obtain ⟨g, o, cap, hv, _, hg, h0, _, _, h3⟩ := h.get (i := 0) rfl
    obtain ⟨rfl, _, rfl⟩ : pa = some ⟨g, o, none⟩ ∧ True ∧ pc = cap := by
      injection hv with e1 e2 e3
      exact ⟨e1, trivial, e3⟩
    rw [Nat.zero_mul, Nat.add_zero] at h0 h3
    by_cases hk : p.kind = 1
    · rw [hk] at h0
      rw [show textL ⟨n, b, [p]⟩ = some p.s by simp [textL, hk]]
      exact qtext_one W n b g o pc p.s hg h0 h3
    · rw [show textL ⟨n, b, [p]⟩ = none by simp [textL, hk]]
      exact qtext_other W n p.kind b g o pc hg hk h0
  | _ :: _ :: r, _ => exact qtext_many W n (r.length + 2) b pa pc (by omega)
end Go.Proofs.YtlihkblllakhmaaGreatDoor
