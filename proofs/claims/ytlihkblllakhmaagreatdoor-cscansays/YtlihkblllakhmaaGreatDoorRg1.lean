/- Where a brace closes, as the document counts it. -/
import Derived.Test.YtlihkblllakhmaaGreatDoorRdB
namespace Go.Proofs.YtlihkblllakhmaaGreatDoor
open Go.RowKit
attribute [local go_sem] Oper.semAt_some

/-- Where what closes stands, or -1. -/
def clR (N : Nat) : Option (List UInt8) → Int
  | none => -1
  | some u => (N : Int) - u.length - 1
set_option maxRecDepth 100000 in
set_option maxHeartbeats 4000000 in
theorem rbrace_any (s : ByteArray) (W : World) (hs : s.size < 1099511627776) (i0 : Nat) (hi0 : i0 ≤ s.size + 2) :
    Calls Tryz.prog 38 #[.string s, .int .i64 (i0 : Nat)] W fun e w' => e = .returned (.int .i64 (clR s.size (passB 0 (s.data.toList.drop i0)))) ∧ w' = W := by
  obtain ⟨R, HR⟩ : ∃ R, Hid (passB 0 (s.data.toList.drop i0) = R) := ⟨_, rfl⟩
  rw [HR.out]
  go_enter Tryz.func38, Tryz.ntmps38
  go_wp2_with fail
  go_loop [1, 4, 5] (fun v1 v4 v5 => ∃ i k : Nat, v1 = .int .i64 i ∧ v4 = .int .i64 0 ∧ v5 = .int .i64 ((k : Int) + 1) ∧ i0 ≤ i ∧ i ≤ s.size + 2 ∧ k ≤ i ∧ Hid (R = passB k (s.data.toList.drop i))) (fun v1 _ _ => s.size + 3 - (intOf v1).toNat)
  case atStart => exact ⟨i0, 0, rfl, rfl, rfl, Nat.le_refl _, hi0, Nat.zero_le _, HR.out.symm⟩
  case round =>
    obtain ⟨i, k, rfl, rfl, rfl, hi1, hi2, hk, HP⟩ := hrel
    by_cases hlt : i < s.size
    · have hlt' : (i : Int) < (s.size : Int) := by omega
      have hP := HP.out
      rw [drop_cons s i hlt, passB_cons] at hP
      clear HP
      by_cases c92 : s[i] = 92
      · have q92 : (((s[i]).toNat : Int) == 92) = true := by rw [c92]; rfl
        rw [if_pos c92, List.tail_drop] at hP
        have HP : Hid _ := hP
        clear hP c92
        go_wp2_with fail
        exact ⟨⟨i + 2, k, by simp; omega, rfl, rfl, by omega, by omega, by omega, HP.out⟩, by simp [intOf]; omega⟩
      · have q92 : (((s[i]).toNat : Int) == 92) = false := byte_ne s[i] 92 c92
        rw [if_neg c92] at hP
        by_cases c40 : s[i] = 123
        · have q40 : (((s[i]).toNat : Int) == 123) = true := by rw [c40]; rfl
          rw [if_pos c40] at hP
          have HP : Hid _ := hP
          clear hP c92 c40
          go_wp2_with fail
          exact ⟨⟨i + 1, k + 1, by simp, rfl, by simp, by omega, by omega, by omega, HP.out⟩, by simp [intOf]; omega⟩
        · have q40 : (((s[i]).toNat : Int) == 123) = false := byte_ne s[i] 123 c40
          rw [if_neg c40] at hP
          by_cases c41 : s[i] = 125
          · have q41 : (((s[i]).toNat : Int) == 125) = true := by rw [c41]; rfl
            rw [if_pos c41] at hP
            cases k with
            | zero =>
              rw [if_pos rfl] at hP
              have HP : Hid (clR s.size R = (i : Int)) := by
                unfold Hid
                rw [hP]
                simp only [clR, len_drop s (i + 1)]
                omega
              clear hP c92 c40 c41
              go_wp2_with fail
              go_ret
              exact ⟨ret_int HP.out.symm, rfl⟩
            | succ k =>
              rw [if_neg (by omega)] at hP
              have hk1 : ((k : Int) + 1 == 0) = false := beq_eq_false_iff_ne.2 (by omega)
              have HP : Hid _ := hP
              clear hP c92 c40 c41
              go_wp2_with fail
              exact ⟨⟨i + 1, k, by simp, rfl, by simp, by omega, by omega, by omega, HP.out⟩, by simp [intOf]; omega⟩
          · have q41 : (((s[i]).toNat : Int) == 125) = false := byte_ne s[i] 125 c41
            rw [if_neg c41] at hP
            have HP : Hid _ := hP
            clear hP c92 c40 c41
            go_wp2_with fail
            exact ⟨⟨i + 1, k, by simp, rfl, rfl, by omega, by omega, by omega, HP.out⟩, by simp [intOf]; omega⟩
    · have hlt' : ¬ (i : Int) < (s.size : Int) := by omega
      have HP1 : Hid (R = none) := by
        unfold Hid
        rw [HP.out, drop_none s i (by omega), passB_nil]
      clear HP
      go_wp2_with fail
      go_ret
      exact ⟨by rw [HP1.out]; rfl, rfl⟩
end Go.Proofs.YtlihkblllakhmaaGreatDoor
