/- The document's own answers: special, Closed, Escape, Read. -/
import Derived.Test.YtdajacodfnidfaaGreatDoorEsc
import Derived.Laws.IdiomStrings
import Derived.Lib.BufferRead
namespace Go.Proofs.YtdajacodfnidfaaGreatDoor
open Go.RowKit Go.Shelf

set_option maxHeartbeats 400000 in
theorem rblank_any (c : UInt8) (w : World) :
    Calls Tryz.prog 63 #[.int .u8 c.toNat] w fun e w' => e = .returned (.bool (blankC c)) ∧ w' = w := by
  have e1 : ((c.toNat : Int) == 32) = (c == 32) := beq_u8 c 32
  have e2 : ((c.toNat : Int) == 9) = (c == 9) := beq_u8 c 9
  have e3 : ((c.toNat : Int) == 10) = (c == 10) := beq_u8 c 10
  obtain ⟨b1, h1⟩ : ∃ b, (c == 32) = b := ⟨_, rfl⟩
  obtain ⟨b2, h2⟩ : ∃ b, (c == 9) = b := ⟨_, rfl⟩
  have hb : blankC c = (b1 || b2 || c == 10) := by simp only [blankC, h1, h2]
  rw [hb]
  rw [h1] at e1
  rw [h2] at e2
  clear h1 h2 hb
  cases b1 <;> cases b2
  all_goals
    go_enter Tryz.func63, Tryz.ntmps63
    go_wp2
    go_ret
    refine ⟨ret_bool ?_, rfl⟩
    first | rfl | (simp only [Bool.false_or, e3])

set_option maxHeartbeats 1000000 in
theorem special_any (c : UInt8) (w : World) :
    Calls Tryz.prog 67 #[.int .u8 c.toNat] w fun e w' => e = .returned (.bool (specialC c)) ∧ w' = w := by
  have e1 : ((c.toNat : Int) == 42) = (c == 42) := beq_u8 c 42
  have e2 : ((c.toNat : Int) == 63) = (c == 63) := beq_u8 c 63
  have e3 : ((c.toNat : Int) == 91) = (c == 91) := beq_u8 c 91
  have e4 : ((c.toNat : Int) == 93) = (c == 93) := beq_u8 c 93
  have e5 : ((c.toNat : Int) == 92) = (c == 92) := beq_u8 c 92
  have hs : specialC c = (c == 42 || c == 63 || c == 91 || c == 93 || c == 92 || blankC c) := rfl
  rw [hs]
  clear hs
  generalize (c == 42) = b1 at e1 ⊢
  generalize (c == 63) = b2 at e2 ⊢
  generalize (c == 91) = b3 at e3 ⊢
  generalize (c == 93) = b4 at e4 ⊢
  generalize (c == 92) = b5 at e5 ⊢
  have key : b1 = true ∨ (b1 = false ∧ b2 = true) ∨ (b1 = false ∧ b2 = false ∧ b3 = true) ∨ (b1 = false ∧ b2 = false ∧ b3 = false ∧ b4 = true) ∨ (b1 = false ∧ b2 = false ∧ b3 = false ∧ b4 = false ∧ b5 = true) ∨ (b1 = false ∧ b2 = false ∧ b3 = false ∧ b4 = false ∧ b5 = false) := by
    cases b1 <;> cases b2 <;> cases b3 <;> cases b4 <;> cases b5 <;> simp
  rcases key with rfl | ⟨rfl, rfl⟩ | ⟨rfl, rfl, rfl⟩ | ⟨rfl, rfl, rfl, rfl⟩ | ⟨rfl, rfl, rfl, rfl, rfl⟩ | ⟨rfl, rfl, rfl, rfl, rfl⟩
  all_goals
    go_enter Tryz.func67, Tryz.ntmps67
    go_wp2_with (go_at_call 63; refine (rblank_any c _).mono ?_; rintro e w1 ⟨rfl, hw1⟩; obtain rfl := hw1.symm)
    go_ret
    exact ⟨ret_bool (by simp), rfl⟩

/-- Is what was read so far open? -/
def opn : Bool → List UInt8 → Bool
  | b, [] => b
  | b, c :: l => opn (c == 92 && !b) l
theorem opn_snoc (l : List UInt8) (b : Bool) (c : UInt8) : opn b (l ++ [c]) = (c == 92 && !opn b l) := by
  induction l generalizing b with
  | nil => rfl
  | cons d l ih => exact ih _
theorem opn_cl : ∀ l : List UInt8, opn false l = !cl l
  | [] => rfl
  | [c] => by
    show (c == 92 && !false) = !(c != 92)
    simp [bne]
  | c :: d :: r => by
    by_cases h : c = 92
    · subst h
      show opn (d == 92 && !((92 : UInt8) == 92 && !false)) r = !cl (92 :: d :: r)
      have e : cl (92 :: d :: r) = cl r := by simp [cl]
      rw [e, ← opn_cl r]
      simp
    · have e : cl (c :: d :: r) = cl (d :: r) := by simp [cl, h]
      rw [e, ← opn_cl (d :: r)]
      show opn (c == 92 && !false) (d :: r) = _
      have : (c == 92) = false := by simpa using h
      rw [this]
      rfl

end Go.Proofs.YtdajacodfnidfaaGreatDoor
