/- Where a bracket closes, as the document counts it. -/
import Derived.Test.YtlihkblllakhmaaGreatDoorRg1
namespace Go.Proofs.YtlihkblllakhmaaGreatDoor
open Go.RowKit
attribute [local go_sem] Oper.semAt_some

theorem passB_suf : ∀ (f : Nat) (l u : List UInt8) (m : Nat), l.length ≤ f → passB m l = some u → u <:+ l := by
  intro f
  induction f with
  | zero =>
    intro l u m h e
    obtain rfl := List.eq_nil_of_length_eq_zero (Nat.le_zero.1 h)
    rw [passB_nil] at e
    cases e
  | succ f ih =>
    intro l u m h e
    cases l with
    | nil => rw [passB_nil] at e; cases e
    | cons c t =>
      rw [List.length_cons] at h
      have ht : t <:+ c :: t := List.suffix_cons _ _
      rw [passB_cons] at e
      split at e
      · exact ((ih _ _ _ (by rw [List.length_tail]; omega) e).trans (List.tail_suffix t)).trans ht
      · split at e
        · exact (ih _ _ _ (by omega) e).trans ht
        · split at e
          · split at e
            · cases e; exact ht
            · exact (ih _ _ _ (by omega) e).trans ht
          · exact (ih _ _ _ (by omega) e).trans ht
theorem passB_drop {s : ByteArray} {k i : Nat} {u : List UInt8} (h : passB k (s.data.toList.drop i) = some u) : u = s.data.toList.drop (s.size - u.length) ∧ u.length + i < s.size := by
  have h1 := (passB_suf _ _ u k (Nat.le_refl _) h).trans (List.drop_suffix i s.data.toList)
  have h2 := passB_lt _ _ u k (Nat.le_refl _) h
  have hl : s.data.toList.length = s.size := by rw [Array.length_toList]; rfl
  rw [len_drop] at h2
  refine ⟨?_, by omega⟩
  have h3 := List.suffix_iff_eq_drop.1 h1
  rwa [hl] at h3
set_option maxRecDepth 100000 in
set_option maxHeartbeats 4000000 in
theorem rbracket_any (s : ByteArray) (W : World) (hs : s.size < 1099511627776) (i0 : Nat) (hi0 : i0 ≤ s.size + 2) :
    Calls Tryz.prog 54 #[.string s, .int .i64 (i0 : Nat)] W fun e w' => e = .returned (.int .i64 (clR s.size (passK 0 0 (s.data.toList.drop i0)))) ∧ w' = W := by
  obtain ⟨R, HR⟩ : ∃ R, Hid (passK 0 0 (s.data.toList.drop i0) = R) := ⟨_, rfl⟩
  rw [HR.out]
  go_enter Tryz.func54, Tryz.ntmps54
  go_wp2_with fail
  go_loop [1, 4, 5] (fun v1 v4 v5 => ∃ i k : Nat, v1 = .int .i64 i ∧ v4 = .int .i64 0 ∧ v5 = .int .i64 ((k : Int) + 1) ∧ i0 ≤ i ∧ i ≤ s.size + 2 ∧ k ≤ i ∧ Hid (R = passK k 0 (s.data.toList.drop i))) (fun v1 _ _ => s.size + 3 - (intOf v1).toNat)
  case atStart => exact ⟨i0, 0, rfl, rfl, rfl, Nat.le_refl _, hi0, Nat.zero_le _, HR.out.symm⟩
  case round =>
    obtain ⟨i, k, rfl, rfl, rfl, hi1, hi2, hk, HP⟩ := hrel
    by_cases hlt : i < s.size
    · have hlt' : (i : Int) < (s.size : Int) := by omega
      have hP := HP.out
      rw [drop_cons s i hlt, passK_cons] at hP
      clear HP
      by_cases c92 : s[i] = 92
      · have q92 : (((s[i]).toNat : Int) == 92) = true := by rw [c92]; rfl
        rw [if_pos c92, List.tail_drop] at hP
        have HP : Hid _ := hP
        clear hP c92
        go_wp2_with fail
        exact ⟨⟨i + 2, k, by simp; omega, rfl, rfl, by omega, by omega, by omega, HP.out⟩, by simp [intOf]; omega⟩
      · have q92 : (((s[i]).toNat : Int) == 92) = false := byte_ne s[i] 92 c92
        rw [if_neg c92] at hP
        by_cases c23 : s[i] = 123
        · have q23 : (((s[i]).toNat : Int) == 123) = true := by rw [c23]; rfl
          rw [if_pos c23, passK_brace k _ _ 0 (Nat.le_refl _)] at hP
          have HI : Hid _ := rbrace_any s W hs (i + 1) (by omega)
          cases hp : passB 0 (s.data.toList.drop (i + 1)) with
          | none =>
            rw [hp] at hP
            have HP : Hid (R = none) := hP
            have HI2 : Hid (Calls Tryz.prog 38 #[.string s, .int .i64 ((i : Int) + 1)] W fun e w' => e = .returned (.int .i64 (-1)) ∧ w' = W) := by
              have := HI.out
              rw [hp] at this
              exact this
            clear hP hp HI c92 c23
            go_wp2_with fail
            refine Calls.mono HI2.out ?_
            rintro e w1 ⟨rfl, hw⟩
            obtain rfl := hw.symm
            clear hw
            go_wp2_with fail
            go_ret
            exact ⟨by rw [HP.out]; rfl, rfl⟩
          | some u =>
            rw [hp] at hP
            obtain ⟨hu1, hu2⟩ := passB_drop hp
            obtain ⟨m, hm⟩ : ∃ m : Nat, s.size - u.length = m + 1 := ⟨s.size - u.length - 1, by omega⟩
            have HP : Hid (R = passK k 0 (s.data.toList.drop (m + 1))) := by
              unfold Hid
              rw [← hm, ← hu1]
              exact hP
            have HI2 : Hid (Calls Tryz.prog 38 #[.string s, .int .i64 ((i : Int) + 1)] W fun e w' => e = .returned (.int .i64 (m : Nat)) ∧ w' = W) := by
              have := HI.out
              rw [hp, show clR s.size (some u) = (m : Nat) by simp only [clR]; omega] at this
              exact this
            have hm0 : ¬ ((m : Int) < 0) := by omega
            clear hP hp HI c92 c23 hu1
            go_wp2_with fail
            refine Calls.mono HI2.out ?_
            rintro e w1 ⟨rfl, hw⟩
            obtain rfl := hw.symm
            clear hw
            go_wp2_with fail
            exact ⟨⟨m + 1, k, by simp, rfl, rfl, by omega, by omega, by omega, HP.out⟩, by simp [intOf]; omega⟩
        · have q23 : (((s[i]).toNat : Int) == 123) = false := byte_ne s[i] 123 c23
          rw [if_neg c23] at hP
          replace hP : R = if s[i] = 91 then passK (k + 1) 0 (s.data.toList.drop (i + 1)) else if s[i] = 93 then (if k = 0 then some (s.data.toList.drop (i + 1)) else passK (k - 1) 0 (s.data.toList.drop (i + 1))) else passK k 0 (s.data.toList.drop (i + 1)) := by
            rw [hP]
            by_cases c25 : s[i] = 125
            · rw [if_pos c25, if_neg (by rw [c25]; decide), if_neg (by rw [c25]; decide)]
            · rw [if_neg c25]
              simp only [if_pos]
          by_cases c40 : s[i] = 91
          · have q40 : (((s[i]).toNat : Int) == 91) = true := by rw [c40]; rfl
            rw [if_pos c40] at hP
            have HP : Hid _ := hP
            clear hP c92 c40 c23
            go_wp2_with fail
            exact ⟨⟨i + 1, k + 1, by simp, rfl, by simp, by omega, by omega, by omega, HP.out⟩, by simp [intOf]; omega⟩
          · have q40 : (((s[i]).toNat : Int) == 91) = false := byte_ne s[i] 91 c40
            rw [if_neg c40] at hP
            by_cases c41 : s[i] = 93
            · have q41 : (((s[i]).toNat : Int) == 93) = true := by rw [c41]; rfl
              rw [if_pos c41] at hP
              cases k with
              | zero =>
                rw [if_pos rfl] at hP
                have HP : Hid (clR s.size R = (i : Int)) := by
                  unfold Hid
                  rw [hP]
                  simp only [clR, len_drop s (i + 1)]
                  omega
                clear hP c92 c40 c41 c23
                go_wp2_with fail
                go_ret
                exact ⟨ret_int HP.out.symm, rfl⟩
              | succ k =>
                rw [if_neg (by omega)] at hP
                have hk1 : ((k : Int) + 1 == 0) = false := beq_eq_false_iff_ne.2 (by omega)
                have HP : Hid _ := hP
                clear hP c92 c40 c41 c23
                go_wp2_with fail
                exact ⟨⟨i + 1, k, by simp, rfl, by simp, by omega, by omega, by omega, HP.out⟩, by simp [intOf]; omega⟩
            · have q41 : (((s[i]).toNat : Int) == 93) = false := byte_ne s[i] 93 c41
              rw [if_neg c41] at hP
              have HP : Hid _ := hP
              clear hP c92 c40 c41 c23
              go_wp2_with fail
              exact ⟨⟨i + 1, k, by simp, rfl, rfl, by omega, by omega, by omega, HP.out⟩, by simp [intOf]; omega⟩
    · have hlt' : ¬ (i : Int) < (s.size : Int) := by omega
      have HP1 : Hid (R = none) := by
        unfold Hid
        rw [HP.out, drop_none s i (by omega), passK_nil]
      clear HP
      go_wp2_with fail
      go_ret
      exact ⟨by rw [HP1.out]; rfl, rfl⟩
end Go.Proofs.YtlihkblllakhmaaGreatDoor
