/- The document's own answers: special, Closed, Escape, Read. -/
import Derived.Test.YticmoepamnddbaaDoorEsc
import Derived.Laws.IdiomStrings
import Derived.Lib.BufferRead
namespace Go.Proofs.YticmoepamnddbaaDoor
open Go.RowKit Go.Shelf

set_option maxHeartbeats 400000 in
theorem rblank_any (c : UInt8) (w : World) :
    Calls Tryd.prog 41 #[.int .u8 c.toNat] w fun e w' => e = .returned (.bool (blankC c)) ∧ w' = w := by
  have e1 : ((c.toNat : Int) == 32) = (c == 32) := beq_u8 c 32
  have e2 : ((c.toNat : Int) == 9) = (c == 9) := beq_u8 c 9
  have e3 : ((c.toNat : Int) == 10) = (c == 10) := beq_u8 c 10
  obtain ⟨b1, h1⟩ : ∃ b, (c == 32) = b := ⟨_, rfl⟩
  obtain ⟨b2, h2⟩ : ∃ b, (c == 9) = b := ⟨_, rfl⟩
  have hb : blankC c = (b1 || b2 || c == 10) := by simp only [blankC, h1, h2]
  rw [hb]
  rw [h1] at e1
  rw [h2] at e2
  clear h1 h2 hb
  cases b1 <;> cases b2
  all_goals
    go_enter Tryd.func41, Tryd.ntmps41
    go_wp2
    go_ret
    refine ⟨ret_bool ?_, rfl⟩
    first | rfl | (simp only [Bool.false_or, e3])

set_option maxHeartbeats 1000000 in
theorem special_any (c : UInt8) (w : World) :
    Calls Tryd.prog 32 #[.int .u8 c.toNat] w fun e w' => e = .returned (.bool (specialC c)) ∧ w' = w := by
  have e1 : ((c.toNat : Int) == 42) = (c == 42) := beq_u8 c 42
  have e2 : ((c.toNat : Int) == 63) = (c == 63) := beq_u8 c 63
  have e3 : ((c.toNat : Int) == 91) = (c == 91) := beq_u8 c 91
  have e4 : ((c.toNat : Int) == 93) = (c == 93) := beq_u8 c 93
  have e5 : ((c.toNat : Int) == 92) = (c == 92) := beq_u8 c 92
  have hs : specialC c = (c == 42 || c == 63 || c == 91 || c == 93 || c == 92 || blankC c) := rfl
  rw [hs]
  clear hs
  generalize (c == 42) = b1 at e1 ⊢
  generalize (c == 63) = b2 at e2 ⊢
  generalize (c == 91) = b3 at e3 ⊢
  generalize (c == 93) = b4 at e4 ⊢
  generalize (c == 92) = b5 at e5 ⊢
  have key : b1 = true ∨ (b1 = false ∧ b2 = true) ∨ (b1 = false ∧ b2 = false ∧ b3 = true) ∨ (b1 = false ∧ b2 = false ∧ b3 = false ∧ b4 = true) ∨ (b1 = false ∧ b2 = false ∧ b3 = false ∧ b4 = false ∧ b5 = true) ∨ (b1 = false ∧ b2 = false ∧ b3 = false ∧ b4 = false ∧ b5 = false) := by
    cases b1 <;> cases b2 <;> cases b3 <;> cases b4 <;> cases b5 <;> simp
  rcases key with rfl | ⟨rfl, rfl⟩ | ⟨rfl, rfl, rfl⟩ | ⟨rfl, rfl, rfl, rfl⟩ | ⟨rfl, rfl, rfl, rfl, rfl⟩ | ⟨rfl, rfl, rfl, rfl, rfl⟩
  all_goals
    go_enter Tryd.func32, Tryd.ntmps32
    go_wp2_with (go_at_call 41; refine (rblank_any c _).mono ?_; rintro e w1 ⟨rfl, hw1⟩; obtain rfl := hw1.symm)
    go_ret
    exact ⟨ret_bool (by simp), rfl⟩

/-- Is what was read so far open? -/
def opn : Bool → List UInt8 → Bool
  | b, [] => b
  | b, c :: l => opn (c == 92 && !b) l
theorem opn_snoc (l : List UInt8) (b : Bool) (c : UInt8) : opn b (l ++ [c]) = (c == 92 && !opn b l) := by
  induction l generalizing b with
  | nil => rfl
  | cons d l ih => exact ih _
theorem opn_cl : ∀ l : List UInt8, opn false l = !cl l
  | [] => rfl
  | [c] => by
    show (c == 92 && !false) = !(c != 92)
    simp [bne]
  | c :: d :: r => by
    by_cases h : c = 92
    · subst h
      show opn (d == 92 && !((92 : UInt8) == 92 && !false)) r = !cl (92 :: d :: r)
      have e : cl (92 :: d :: r) = cl r := by simp [cl]
      rw [e, ← opn_cl r]
      simp
    · have e : cl (c :: d :: r) = cl (d :: r) := by simp [cl, h]
      rw [e, ← opn_cl (d :: r)]
      show opn (c == 92 && !false) (d :: r) = _
      have : (c == 92) = false := by simpa using h
      rw [this]
      rfl

set_option maxHeartbeats 1000000 in
theorem rclosed_any (s : ByteArray) (hs : s.size < 4294967296) (w : World) :
    Calls Tryd.prog 10 #[.string s] w fun e w' => e = .returned (.bool (cl s.data.toList)) ∧ w' = w := by
  go_enter Tryd.func10, Tryd.ntmps10
  go_wp2_with fail
  go_loopw [3, 4] (fun v3 v4 wr => ∃ k : Nat, v4 = .int .i64 k ∧ k ≤ s.size ∧ v3 = .bool (opn false (s.data.toList.take k)) ∧ wr = w) (fun _ v4 _ => s.size - (intOf v4).toNat)
  case atStart => exact ⟨0, rfl, by omega, rfl, rfl⟩
  case round =>
    obtain ⟨k, rfl, hk, rfl, hwr⟩ := hrel
    obtain rfl := hwr.symm
    by_cases hkl : k < s.size
    · have HS : Hid (opn false (s.data.toList.take (k + 1)) = (s[k] == 92 && !opn false (s.data.toList.take k))) := by
        unfold Hid
        rw [take_snoc (s_get s k hkl), opn_snoc]
      have e5 : ((s[k].toNat : Int) == 92) = (s[k] == 92) := beq_u8 s[k] 92
      generalize opn false (s.data.toList.take k) = b at HS ⊢
      generalize (s[k] == 92) = c at e5 HS
      cases c
      all_goals
        go_wp2_with fail
        exact ⟨⟨k + 1, by simp, by omega, by rw [HS.out]; simp, trivial⟩, by simp [intOf]; omega⟩
    · have hkz : k = s.size := by omega
      subst hkz
      have e1 : s.data.toList.take s.size = s.data.toList := List.take_of_length_le (by simp)
      rw [e1, opn_cl]
      go_wp2_with fail
      go_ret
      exact ⟨ret_bool (by simp), rfl⟩
end Go.Proofs.YticmoepamnddbaaDoor
