/- The document's own letters and names. -/
import Derived.Test.YtlbdecohmjpgaaaDoorNm
import Derived.Deep.DeepCutAuto
namespace Go.Proofs.YtlbdecohmjpgaaaDoor
open Go.RowKit
attribute [local go_sem] Oper.semAt_some

theorem parts9 (c : Int) : c < 48 ∨ (48 ≤ c ∧ c ≤ 57) ∨ (57 < c ∧ c < 65) ∨ (65 ≤ c ∧ c ≤ 90) ∨ (90 < c ∧ c < 95) ∨ c = 95 ∨ c = 96 ∨ (97 ≤ c ∧ c ≤ 122) ∨ 122 < c := by omega
theorem cont_t {c : Int} (h : (97 ≤ c ∧ c ≤ 122) ∨ (65 ≤ c ∧ c ≤ 90) ∨ c = 95 ∨ (48 ≤ c ∧ c ≤ 57)) : contB c = true := by
  unfold contB startB digitB; simp; omega
theorem cont_f {c : Int} (h : ¬ ((97 ≤ c ∧ c ≤ 122) ∨ (65 ≤ c ∧ c ≤ 90) ∨ c = 95 ∨ (48 ≤ c ∧ c ≤ 57))) : contB c = false := by
  unfold contB startB digitB; simp; omega
set_option maxHeartbeats 1000000 in
theorem letter_any (c : Int) (w : World) :
    Calls Tryd.prog 18 #[.int .u8 c] w fun e w' => e = .returned (.bool (contB c)) ∧ w' = w := by
  rcases parts9 c with hq | hq | hq | hq | hq | hq | hq | hq | hq
  all_goals
    try have hq5 : (c == 95) = false := beq_eq_false_iff_ne.2 (by omega)
    try have hq6 : decide (c ≤ 90) = false := decide_eq_false (by omega)
    try have hq7 : decide (c ≤ 122) = false := decide_eq_false (by omega)
    try have hq8 : decide (c ≤ 57) = false := decide_eq_false (by omega)
    go_enter Tryd.func18, Tryd.ntmps18
    go_wp2
    go_ret
    exact ⟨ret_bool (by first | exact (cont_t (by omega)).symm | exact (cont_f (by omega)).symm), rfl⟩
theorem start_eq (c : Int) : startB c = (contB c && !digitB c) := by
  unfold contB startB digitB
  rw [Bool.eq_iff_iff]; simp; omega
set_option maxHeartbeats 1000000 in
theorem rname_out (s : ByteArray) (w : World) (h : s.size < 1 ∨ 20 < s.size) :
    Calls Tryd.prog 17 #[.string s] w fun e w' => e = .returned (.bool false) ∧ w' = w := by
  rcases h with h | h
  · go_enter Tryd.func17, Tryd.ntmps17
    go_wp2
    go_ret
    exact ⟨rfl, rfl⟩
  · have h1 : ¬ s.size < 1 := by omega
    go_enter Tryd.func17, Tryd.ntmps17
    go_wp2
    go_ret
    exact ⟨rfl, rfl⟩
set_option maxHeartbeats 1000000 in
theorem rname_digit (s : ByteArray) (w : World) (h0 : 1 ≤ s.size) (h : s.size ≤ 20) (hd : 48 ≤ ((s[0]).toNat : Int) ∧ ((s[0]).toNat : Int) ≤ 57) :
    Calls Tryd.prog 17 #[.string s] w fun e w' => e = .returned (.bool false) ∧ w' = w := by
  go_enter Tryd.func17, Tryd.ntmps17
  go_wp2
  go_ret
  exact ⟨rfl, rfl⟩
set_option maxHeartbeats 1000000 in
theorem rname_loop (s : ByteArray) (w : World) (h0 : 1 ≤ s.size) (h : s.size ≤ 20) (hd : ((s[0]).toNat : Int) < 48 ∨ 57 < ((s[0]).toNat : Int)) :
    Calls Tryd.prog 17 #[.string s] w fun e w' => e = .returned (.bool (allCont s.data.toList)) ∧ w' = w := by
  have d0 : decide ((s.size : Int) < 1) = false := decide_eq_false (by omega)
  have d1 : decide ((20 : Int) < s.size) = false := decide_eq_false (by omega)
  by_cases hlo : ((s[0]).toNat : Int) < 48
  all_goals
    try have d3 : decide (48 ≤ ((s[0]).toNat : Int)) = false := decide_eq_false (by omega)
    try have d3 : decide (48 ≤ ((s[0]).toNat : Int)) = true := decide_eq_true (by omega)
    try have d4 : decide (((s[0]).toNat : Int) ≤ 57) = false := decide_eq_false (by omega)
    try have d5 : 57 < ((s[0]).toNat : Int) := by omega
    clear hd
    go_enter Tryd.func17, Tryd.ntmps17
    go_wp2
    go_loop [3] (fun v => ∃ k : Nat, k ≤ s.size ∧ v = .int .i64 k ∧ Hid (allCont s.data.toList = allCont (s.data.toList.drop k))) (fun v => s.size - (intOf v).toNat)
    case atStart => exact ⟨0, by omega, rfl, by simp [Hid]⟩
    case round =>
      obtain ⟨k, hk, rfl, hh⟩ := hrel
      by_cases hlt : k < s.size
      · have hd := drop_cons s k hlt
        cases hcb : contB ((s[k]).toNat : Int)
        · have hf : allCont s.data.toList = false := by
            rw [hh.out, hd, allCont, List.all_cons, show cont8 s[k] = false from hcb]; rfl
          have HF : Hid _ := hf
          have HCB : Hid _ := hcb
          clear hf hcb hd hh
          go_wp2_with (go_at_call 18; refine (letter_any _ _).mono ?_; rintro e w' ⟨rfl, rfl⟩; rw [HCB.out])
          go_ret
          exact ⟨ret_bool HF.out.symm, rfl⟩
        · have hf : allCont s.data.toList = allCont (s.data.toList.drop (k + 1)) := by
            rw [hh.out, hd, allCont, List.all_cons, show cont8 s[k] = true from hcb]; rfl
          have HF : Hid _ := hf
          have HCB : Hid _ := hcb
          clear hf hcb hd hh
          go_wp2_with (go_at_call 18; refine (letter_any _ _).mono ?_; rintro e w' ⟨rfl, rfl⟩; rw [HCB.out])
          go_round
          case rel => exact ⟨k + 1, by omega, by go_num, HF.out⟩
          case measure => simp [intOf]; omega
      · have hf : allCont s.data.toList = true := by
          rw [hh.out, List.drop_of_length_le (by simp; omega)]; rfl
        have HF : Hid _ := hf
        clear hf hh
        go_wp2
        go_ret
        exact ⟨ret_bool HF.out.symm, rfl⟩
theorem rname_any (s : ByteArray) (w : World) :
    Calls Tryd.prog 17 #[.string s] w fun e w' => e = .returned (.bool (nameB s.data.toList)) ∧ w' = w := by
  by_cases ho : s.size < 1 ∨ 20 < s.size
  · have hp : nameB s.data.toList = false := by
      rcases ho with ho | ho
      · rw [empty_of s (by omega)]; rfl
      · exact nameB_long s ho
    rw [hp]; exact rname_out s w ho
  · have h1 : 0 < s.size := by omega
    rw [nameB_of s h1 (by omega), start_eq]
    have hc : allCont s.data.toList = (contB ((s[0]).toNat : Int) && allCont s.data.toList) := by
      have hd := drop_cons s 0 h1
      rw [List.drop_zero] at hd
      rw [hd, allCont, List.all_cons]
      show (contB _ && _) = _
      simp [cont8]
    by_cases hdg : 48 ≤ ((s[0]).toNat : Int) ∧ ((s[0]).toNat : Int) ≤ 57
    · rw [show digitB ((s[0]).toNat : Int) = true from decide_eq_true hdg]
      rw [show (contB ((s[0]).toNat : Int) && !true && allCont s.data.toList) = false from by simp]
      exact rname_digit s w h1 (by omega) hdg
    · rw [show digitB ((s[0]).toNat : Int) = false from decide_eq_false hdg]
      rw [show (contB ((s[0]).toNat : Int) && !false && allCont s.data.toList) = allCont s.data.toList from by rw [Bool.not_false, Bool.and_true]; exact hc.symm]
      exact rname_loop s w h1 (by omega) (by omega)
end Go.Proofs.YtlbdecohmjpgaaaDoor
