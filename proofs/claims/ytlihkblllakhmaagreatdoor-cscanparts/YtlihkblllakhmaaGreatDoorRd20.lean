/- The text of a word that is nothing else. -/
import Derived.Test.YtlihkblllakhmaaGreatDoorRd19
namespace Go.Proofs.YtlihkblllakhmaaGreatDoor
open Go.RowKit
attribute [local go_sem] Oper.semAt_some

/-- The only part lies in memory. -/
theorem PtOwn.only {W : World} {B : Nat} {v : Value} {p : Pt} (h : PtOwn W B v [p]) : ∃ g cap, v = .slice (some ⟨g, 0, none⟩) 1 cap ∧ g < W.heap.size ∧ W.cell? ⟨g, 0, none⟩ = some (.int .i64 (p.kind : Nat)) ∧ W.cell? ⟨g, 3, none⟩ = some (str p.s) := by
  rcases h.2 with ⟨_, h0⟩ | ⟨g, cap, cur, hv, hb, hc, h1, _, h2, h3⟩
  · exact absurd (show [p].length = 0 from h0) (by simp)
  · have hz : cur.toList.take 4 = ptC p := h3
    have e0 : ∀ j u, j < 4 → (ptC p)[j]? = some u → W.cell? ⟨g, j, none⟩ = some u := fun j u hj hu => by
      have e1 : W.cell? ⟨g, j, none⟩ = cur[j]? := by simp [World.cell?, hc]
      rw [e1, ← Array.getElem?_toList, ← List.getElem?_take_of_lt hj, hz]
      exact hu
    have hg : W.cell? ⟨g, 0, none⟩ = some (.int .i64 (p.kind : Nat)) := e0 0 _ (by omega) rfl
    exact ⟨g, cap, hv, World.block_lt_of_cell? W _ hg, hg, e0 3 _ (by omega) rfl⟩
def txtV : Option (List UInt8) → Array Value
  | none => #[.string ⟨#[]⟩, .bool false]
  | some l => #[str l, .bool true]
theorem text_many (W : World) (n k : Nat) (b : Bool) (pa : Option Addr) (pc : Nat) (hk : k ≠ 1) :
    Calls Tryz.prog 13 #[.agg #[.int .i64 (n : Nat), .bool b, .slice pa k pc]] W fun e w' => e = .returned (.tuple #[.string ⟨#[]⟩, .bool false]) ∧ Below W.heap.size W w' := by
  have h1 : ((k : Int) == 1) = false := by simp; omega
  have h2 : ¬ ((k : Int) = 1) := by omega
  have h3 : decide ((k : Int) = 1) = false := by simp; omega
  go_enter Tryz.func13, Tryz.ntmps13
  go_wp2_with fail
  go_ret2
  exact ⟨rfl, below_new W _⟩
theorem text_one (W : World) (n : Nat) (b : Bool) (g pc : Nat) (t : List UInt8) (hg : g < W.heap.size) (h0 : W.cell? ⟨g, 0, none⟩ = some (.int .i64 1)) (h3 : W.cell? ⟨g, 3, none⟩ = some (str t)) :
    Calls Tryz.prog 13 #[.agg #[.int .i64 (n : Nat), .bool b, .slice (some ⟨g, 0, none⟩) 1 pc]] W fun e w' => e = .returned (.tuple #[str t, .bool true]) ∧ Below W.heap.size W w' := by
  have hn : ¬ W.heap.size = g := by omega
  have hn' : ¬ g = W.heap.size := by omega
  have d0 : (W.alloc (.cells #[.int .i64 (n : Nat), .bool b, .slice (some ⟨g, 0, none⟩) 1 pc] 44)).cell? ⟨g, 0, none⟩ = some (.int .i64 1) := ((below_new W _).cell hg).trans h0
  have d3 : (W.alloc (.cells #[.int .i64 (n : Nat), .bool b, .slice (some ⟨g, 0, none⟩) 1 pc] 44)).cell? ⟨g, 3, none⟩ = some (str t) := ((below_new W _).cell hg).trans h3
  go_enter Tryz.func13, Tryz.ntmps13
  go_wp2_with fail
  go_ret2
  exact ⟨rfl, below_new W _⟩
theorem text_other (W : World) (n k : Nat) (b : Bool) (g pc : Nat) (hg : g < W.heap.size) (hk : k ≠ 1) (h0 : W.cell? ⟨g, 0, none⟩ = some (.int .i64 (k : Nat))) :
    Calls Tryz.prog 13 #[.agg #[.int .i64 (n : Nat), .bool b, .slice (some ⟨g, 0, none⟩) 1 pc]] W fun e w' => e = .returned (.tuple #[.string ⟨#[]⟩, .bool false]) ∧ Below W.heap.size W w' := by
  have h1 : ((k : Int) == 1) = false := by simp; omega
  have h2 : ¬ ((k : Int) = 1) := by omega
  have h3 : decide ((k : Int) = 1) = false := by simp; omega
  have h4 : ((k : Int) != 1) = true := by simp; omega
  have hn : ¬ W.heap.size = g := by omega
  have hn' : ¬ g = W.heap.size := by omega
  have d0 : (W.alloc (.cells #[.int .i64 (n : Nat), .bool b, .slice (some ⟨g, 0, none⟩) 1 pc] 44)).cell? ⟨g, 0, none⟩ = some (.int .i64 (k : Nat)) := ((below_new W _).cell hg).trans h0
  go_enter Tryz.func13, Tryz.ntmps13
  go_wp2_with fail
  go_ret2
  exact ⟨rfl, below_new W _⟩
theorem text_any {W : World} {B n pc : Nat} {b : Bool} {pa : Option Addr} {ps : List Pt} (h : PtOwn W B (.slice pa ps.length pc) ps) :
    Calls Tryz.prog 13 #[.agg #[.int .i64 (n : Nat), .bool b, .slice pa ps.length pc]] W fun e w' => e = .returned (.tuple (txtV (textL ⟨n, b, ps⟩))) ∧ Below W.heap.size W w' := by
  match ps, h with
  | [], _ => exact text_many W n 0 b pa pc (by omega)
  | [p], h =>
    obtain ⟨g, cap, hv, hg, h0, h3⟩ := h.only
    obtain ⟨rfl, _, rfl⟩ : pa = some ⟨g, 0, none⟩ ∧ True ∧ pc = cap := by
      injection hv with e1 e2 e3
      exact ⟨e1, trivial, e3⟩
    by_cases hk : p.kind = 1
    · rw [hk] at h0
      rw [show textL ⟨n, b, [p]⟩ = some p.s by simp [textL, hk]]
      exact text_one W n b g pc p.s hg h0 h3
    · rw [show textL ⟨n, b, [p]⟩ = none by simp [textL, hk]]
      exact text_other W n p.kind b g pc hg hk h0
  | _ :: _ :: r, _ => exact text_many W n (r.length + 2) b pa pc (by omega)
end Go.Proofs.YtlihkblllakhmaaGreatDoor
