/- What the small functions on letters answer, and what they leave of the world. -/
import Derived.Test.YtdajacodfnidfaaGreatDoorProg
import Derived.Test.YtdajacodfnidfaaGreatDoorPlain
import Derived.WalkKit
import Derived.WalkSpells
import Derived.WalkLawsBesides
import Derived.Laws.ResultCell
namespace Go.Proofs.YtdajacodfnidfaaGreatDoor
open Go.RowKit

/-- A letter as the program has it. -/
abbrev ltV (x : Lt) : Value := .agg #[.int .u8 x.1.toNat, .bool x.2]

theorem ret_bool {a b : Bool} (h : a = b) : Ending.returned (.bool a) = .returned (.bool b) := by rw [h]
theorem beq_u8 (c d : UInt8) : ((c.toNat : Int) == (d.toNat : Int)) = (c == d) := by
  rw [Bool.eq_iff_iff]
  simp only [beq_iff_eq]
  constructor
  · intro h; exact UInt8.toNat_inj.1 (by omega)
  · intro h; rw [h]

set_option maxHeartbeats 400000 in
theorem is_any (x : Lt) (d : UInt8) (dv : Int) (hd : (d.toNat : Int) = dv) (w : World) :
    Calls Tryz.prog 91 #[ltV x, .int .u8 dv] w fun e w' => e = .returned (.bool (isL x d)) ∧ w' = w.alloc (.cells #[.int .u8 x.1.toNat, .bool x.2] 70) := by
  obtain ⟨c, a⟩ := x
  subst hd
  cases a
  all_goals
    go_enter Tryz.func91, Tryz.ntmps91
    go_wp2
    go_ret
    refine ⟨ret_bool ?_, rfl⟩
    first | rfl | (simp only [isL, Bool.true_and]; exact beq_u8 c d)

set_option maxHeartbeats 400000 in
theorem blank_any (c : UInt8) (w : World) :
    Calls Tryz.prog 61 #[.int .u8 c.toNat] w fun e w' => e = .returned (.bool (blankC c)) ∧ w' = w := by
  have e1 := beq_u8 c 32
  have e2 := beq_u8 c 9
  have e3 := beq_u8 c 10
  obtain ⟨b1, h1⟩ : ∃ b, (c == 32) = b := ⟨_, rfl⟩
  obtain ⟨b2, h2⟩ : ∃ b, (c == 9) = b := ⟨_, rfl⟩
  have hb : blankC c = (b1 || b2 || c == 10) := by simp only [blankC, h1, h2]
  rw [hb]
  rw [h1] at e1
  rw [h2] at e2
  clear h1 h2 hb
  have e1' : ((c.toNat : Int) == 32) = b1 := e1
  have e2' : ((c.toNat : Int) == 9) = b2 := e2
  have e3' : ((c.toNat : Int) == 10) = (c == 10) := e3
  clear e1 e2 e3
  cases b1 <;> cases b2
  all_goals
    go_enter Tryz.func61, Tryz.ntmps61
    go_wp2
    go_ret
    refine ⟨ret_bool ?_, rfl⟩
    first | rfl | (simp only [Bool.false_or, Bool.or_false, Bool.true_or, Bool.or_true, e1', e2', e3'])

theorem headL_of (s : ByteArray) (h : 0 < s.size) : s.data.toList = s[0] :: s.data.toList.drop 1 := by
  have h' : 0 < s.data.toList.length := by simpa using h
  rw [← List.drop_zero (l := s.data.toList), List.drop_eq_getElem_cons h']
  simp; rfl
theorem list0 (s : ByteArray) (h : 0 < s.size) (h1 : s[0] ≠ 92) : headL s.data.toList = (s[0], true) ∧ headW s.data.toList = 1 := by
  rw [headL_of s h]
  cases s.data.toList.drop 1 with
  | nil => simp [headL, headW, h1]
  | cons d r => simp [headL, headW, h1]
theorem list1 (s : ByteArray) (h : s.size = 1) (h1 : s[0]'(by omega) = 92) : headL s.data.toList = (92, false) ∧ headW s.data.toList = 1 := by
  rw [headL_of s (by omega), List.drop_eq_nil_of_le (by simpa using Nat.le_of_eq h)]
  simp [headL, headW, h1]
theorem list2 (s : ByteArray) (h : 1 < s.size) (h1 : s[0]'(by omega) = 92) : headL s.data.toList = (s[1], false) ∧ headW s.data.toList = 2 := by
  have h' : 1 < s.data.toList.length := by simpa using h
  rw [headL_of s (by omega), List.drop_eq_getElem_cons h']
  simp [headL, headW, h1]; rfl

set_option maxHeartbeats 1000000 in
theorem letterOf_any (s : ByteArray) (w : World) (h : 0 < s.size) :
    Calls Tryz.prog 86 #[.string s] w fun e w' => e = .returned (.tuple #[ltV (headL s.data.toList), .int .i64 (headW s.data.toList)]) ∧ Below w.heap.size w w' := by
  have hdat : ((({ data := #[92] } : ByteArray)[0]'(by decide)).toNat : Int) = 92 := rfl
  by_cases h1 : s[0] = 92
  · have hq : (((s[0]).toNat : Int) == 92) = true := by rw [h1]; rfl
    by_cases h2 : s.size = 1
    · obtain ⟨e1, e2⟩ := list1 s h2 h1
      rw [e1, e2]
      go_enter Tryz.func86, Tryz.ntmps86
      go_wp2
      go_region
      all_goals go_wp2
      refine bodyPost_ret (v := .tuple #[ltV (92, false), .int .i64 ((1 : Nat) : Int)]) (by rw [results_cell_tmp rfl]; go_simp) rfl ?_
      exact ⟨rfl, ((Below.refl _ w).alloc (Nat.le_refl _) _).drew⟩
    · obtain ⟨e1, e2⟩ := list2 s (by omega) h1
      rw [e1, e2]
      go_enter Tryz.func86, Tryz.ntmps86
      go_wp2
      go_region
      all_goals go_wp2
      refine bodyPost_ret (v := .tuple #[ltV (s[1], false), .int .i64 ((2 : Nat) : Int)]) (by rw [results_cell_tmp rfl]; go_simp) rfl ?_
      exact ⟨rfl, ((Below.refl _ w).alloc (Nat.le_refl _) _).drew⟩
  · obtain ⟨e1, e2⟩ := list0 s (by omega) h1
    rw [e1, e2]
    have hq : (((s[0]).toNat : Int) != 92) = true := by
      have := beq_u8 s[0] 92
      have h3 : (s[0] == 92) = false := by simpa using h1
      rw [h3] at this
      have t2 : (((s[0]).toNat : Int) == 92) = false := this
      simp only [bne, t2, Bool.not_false]
    go_enter Tryz.func86, Tryz.ntmps86
    go_wp2
    go_region
    all_goals go_wp2
    refine bodyPost_ret (v := .tuple #[ltV (s[0], true), .int .i64 ((1 : Nat) : Int)]) (by rw [results_cell_tmp rfl]; go_simp) rfl ?_
    exact ⟨rfl, ((Below.refl _ w).alloc (Nat.le_refl _) _).drew⟩
end Go.Proofs.YtdajacodfnidfaaGreatDoor
