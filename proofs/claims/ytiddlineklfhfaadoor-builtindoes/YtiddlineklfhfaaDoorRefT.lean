/- The document's own Letter, Parse and Name. -/
import Derived.Test.YtiddlineklfhfaaDoorNumPlain
import Derived.Deep.DeepCutAuto
namespace Go.Proofs.YtiddlineklfhfaaDoor.T
open Go.RowKit

theorem parts9 (c : Int) : c < 48 ∨ (48 ≤ c ∧ c ≤ 57) ∨ (57 < c ∧ c < 65) ∨ (65 ≤ c ∧ c ≤ 90) ∨ (90 < c ∧ c < 95) ∨ c = 95 ∨ c = 96 ∨ (97 ≤ c ∧ c ≤ 122) ∨ 122 < c := by omega
theorem cont_t {c : Int} (h : (97 ≤ c ∧ c ≤ 122) ∨ (65 ≤ c ∧ c ≤ 90) ∨ c = 95 ∨ (48 ≤ c ∧ c ≤ 57)) : contB c = true := by
  unfold contB startB digitB; simp; omega
theorem cont_f {c : Int} (h : ¬ ((97 ≤ c ∧ c ≤ 122) ∨ (65 ≤ c ∧ c ≤ 90) ∨ c = 95 ∨ (48 ≤ c ∧ c ≤ 57))) : contB c = false := by
  unfold contB startB digitB; simp; omega

set_option maxHeartbeats 1000000 in
theorem letter_any (c : Int) (w : World) :
    Calls Tryd.prog 41 #[.int .u8 c] w fun e w' => e = .returned (.bool (contB c)) ∧ w' = w := by
  rcases parts9 c with hq | hq | hq | hq | hq | hq | hq | hq | hq
  all_goals
    try have hq5 : (c == 95) = false := beq_eq_false_iff_ne.2 (by omega)
    try have hq6 : decide (c ≤ 90) = false := decide_eq_false (by omega)
    try have hq7 : decide (c ≤ 122) = false := decide_eq_false (by omega)
    try have hq8 : decide (c ≤ 57) = false := decide_eq_false (by omega)
    go_enter Tryd.func41, Tryd.ntmps41
    go_wp2
    go_ret
    exact ⟨ret_bool (by first | exact (cont_t (by omega)).symm | exact (cont_f (by omega)).symm), rfl⟩

theorem start_eq (c : Int) : startB c = (contB c && !digitB c) := by
  unfold contB startB digitB
  rw [Bool.eq_iff_iff]; simp; omega

/-- A text's number, or -1. -/
def refNum : Option Nat → Int
  | some n => n
  | none => -1
set_option maxHeartbeats 400000 in
theorem rparse_out (s : ByteArray) (w : World) (h : s.size < 1 ∨ 9 < s.size) :
    Calls Tryd.prog 25 #[.string s] w fun e w' => e = .returned (.int .i64 (refNum none)) ∧ w' = w := by
  rcases h with h | h
  · go_enter Tryd.func25, Tryd.ntmps25
    go_wp2
    go_ret
    exact ⟨rfl, rfl⟩
  · have h1 : ¬ s.size < 1 := by omega
    go_enter Tryd.func25, Tryd.ntmps25
    go_wp2
    go_ret
    exact ⟨rfl, rfl⟩
set_option maxHeartbeats 400000 in
theorem rparse_zero (s : ByteArray) (w : World) (h : s.size ≤ 9) (h1 : 1 < s.size) (hz : (((s[0]).toNat : Int) == 48) = true) :
    Calls Tryd.prog 25 #[.string s] w fun e w' => e = .returned (.int .i64 (refNum none)) ∧ w' = w := by
  go_enter Tryd.func25, Tryd.ntmps25
  go_wp2
  go_ret
  exact ⟨rfl, rfl⟩
set_option maxHeartbeats 1000000 in
theorem rparse_loop (s : ByteArray) (w : World) (h0 : 1 ≤ s.size) (h : s.size ≤ 9) (hz : s.size ≤ 1 ∨ (((s[0]).toNat : Int) == 48) = false) :
    Calls Tryd.prog 25 #[.string s] w fun e w' => e = .returned (.int .i64 (refNum (digitsV s.data.toList))) ∧ w' = w := by
  have d0 : decide ((s.size : Int) < 1) = false := decide_eq_false (by omega)
  have d1 : decide ((9 : Int) < s.size) = false := decide_eq_false (by omega)
  by_cases h1 : s.size ≤ 1
  all_goals
    try have hz' : (((s[0]).toNat : Int) == 48) = false := hz.resolve_left h1
    try have d2 : decide ((1 : Int) < s.size) = false := decide_eq_false (by omega)
    try have d2 : decide ((1 : Int) < s.size) = true := decide_eq_true (by omega)
    clear hz
    go_enter Tryd.func25, Tryd.ntmps25
    go_wp2
    go_loop [3, 4] (fun v n => ∃ k : Nat, k ≤ s.size ∧ n = .int .i64 k ∧ v = .int .i64 (valOf (s.data.toList.take k)) ∧ Hid (allDigit (s.data.toList.take k) = true)) (fun _ n => s.size - (intOf n).toNat)
    case atStart => exact ⟨0, by omega, rfl, rfl, rfl⟩
    case round =>
      obtain ⟨k, hk, rfl, rfl, hh⟩ := hrel
      by_cases hlt : k < s.size
      · cases hcb : digitB ((s[k]).toNat : Int)
        · have hf := allDigit_no s k hlt hcb
          have HF : Hid _ := hf
          have hb2 := of_decide_eq_false (show decide (48 ≤ ((s[k]).toNat : Int) ∧ ((s[k]).toNat : Int) ≤ 57) = false from hcb)
          clear hf hcb hh
          by_cases hlo : ((s[k]).toNat : Int) < 48
          all_goals
            try have hhi : 57 < ((s[k]).toNat : Int) := by omega
            clear hb2
            go_wp2
            go_ret
            exact ⟨by rw [digitsV, HF.out]; rfl, rfl⟩
        · have hts := take_snoc s k hlt
          have hvs := valOf_snoc (s.data.toList.take k) s[k]
          rw [← hts] at hvs
          have hds := allDigit_snoc (s.data.toList.take k) s[k]
          rw [← hts, hh.out, show digit8 s[k] = true from hcb] at hds
          have hb1 : valOf (s.data.toList.take k) < 100000000 := by
            have hlen : (s.data.toList.take k).length = k := by rw [List.length_take]; simp; omega
            have := valOf_lt k _ hlen hh.out
            have : 10 ^ k ≤ 10 ^ 8 := Nat.pow_le_pow_right (by omega) (by omega)
            omega
          have hb2 := of_decide_eq_true (show decide (48 ≤ ((s[k]).toNat : Int) ∧ ((s[k]).toNat : Int) ≤ 57) = true from hcb)
          have hvs2 : ((valOf (s.data.toList.take (k + 1)) : Nat) : Int) = (valOf (s.data.toList.take k) : Nat) * 10 + (((s[k]).toNat : Int) - 48) := by rw [hvs]; omega
          have HV : Hid _ := hvs2
          have HD : Hid _ := hds
          clear hts hvs hds hvs2 hcb hh
          go_wp2
          go_round
          case rel => exact ⟨k + 1, by omega, by go_num, by rw [HV.out], HD.out⟩
          case measure => simp [intOf]; omega
      · have hk2 : s.data.toList.take k = s.data.toList := List.take_of_length_le (by simp; omega)
        rw [hk2] at hh
        rw [hk2]
        clear hk2
        go_wp2
        go_ret
        exact ⟨by rw [digitsV, hh.out]; rfl, rfl⟩
theorem rparse_any (s : ByteArray) (w : World) :
    Calls Tryd.prog 25 #[.string s] w fun e w' => e = .returned (.int .i64 (refNum (parseV s.data.toList))) ∧ w' = w := by
  have hl : s.data.toList.length = s.size := by simp
  by_cases ho : s.size < 1 ∨ 9 < s.size
  · have hp : parseV s.data.toList = none := by
      rcases ho with ho | ho
      · rw [empty_of s (by omega)]; rfl
      · exact parseV_long _ (by omega)
    rw [hp]; exact rparse_out s w ho
  · have h1 : 0 < s.size := by omega
    by_cases hz : s[0] = 48
    · by_cases hs : 1 < s.size
      · rw [parseV_zero _ (by rw [head_of s h1, hz]) (by omega)]
        exact rparse_zero s w (by omega) hs (by rw [hz]; rfl)
      · rw [parseV_of _ (by omega) (by omega) (fun _ => by omega)]
        exact rparse_loop s w h1 (by omega) (.inl (by omega))
    · rw [parseV_of _ (by omega) (by omega) (fun hh => by rw [head_of s h1] at hh; exact absurd (Option.some.inj hh) hz)]
      exact rparse_loop s w h1 (by omega) (.inr (by rw [beq_eq_false_iff_ne]; exact fun hh => hz ((u8_eq _ _).2 hh)))
set_option maxHeartbeats 400000 in
theorem rname_out (s : ByteArray) (w : World) (h : s.size < 1 ∨ 20 < s.size) :
    Calls Tryd.prog 28 #[.string s] w fun e w' => e = .returned (.bool false) ∧ w' = w := by
  rcases h with h | h
  · go_enter Tryd.func28, Tryd.ntmps28
    go_wp2
    go_ret
    exact ⟨rfl, rfl⟩
  · have h1 : ¬ s.size < 1 := by omega
    go_enter Tryd.func28, Tryd.ntmps28
    go_wp2
    go_ret
    exact ⟨rfl, rfl⟩
set_option maxHeartbeats 400000 in
theorem rname_digit (s : ByteArray) (w : World) (h0 : 1 ≤ s.size) (h : s.size ≤ 20) (hd : 48 ≤ ((s[0]).toNat : Int) ∧ ((s[0]).toNat : Int) ≤ 57) :
    Calls Tryd.prog 28 #[.string s] w fun e w' => e = .returned (.bool false) ∧ w' = w := by
  go_enter Tryd.func28, Tryd.ntmps28
  go_wp2
  go_ret
  exact ⟨rfl, rfl⟩
set_option maxHeartbeats 1000000 in
theorem rname_loop (s : ByteArray) (w : World) (h0 : 1 ≤ s.size) (h : s.size ≤ 20) (hd : ((s[0]).toNat : Int) < 48 ∨ 57 < ((s[0]).toNat : Int)) :
    Calls Tryd.prog 28 #[.string s] w fun e w' => e = .returned (.bool (allCont s.data.toList)) ∧ w' = w := by
  have d0 : decide ((s.size : Int) < 1) = false := decide_eq_false (by omega)
  have d1 : decide ((20 : Int) < s.size) = false := decide_eq_false (by omega)
  by_cases hlo : ((s[0]).toNat : Int) < 48
  all_goals
    try have d3 : decide (48 ≤ ((s[0]).toNat : Int)) = false := decide_eq_false (by omega)
    try have d3 : decide (48 ≤ ((s[0]).toNat : Int)) = true := decide_eq_true (by omega)
    try have d4 : decide (((s[0]).toNat : Int) ≤ 57) = false := decide_eq_false (by omega)
    try have d5 : 57 < ((s[0]).toNat : Int) := by omega
    clear hd
    go_enter Tryd.func28, Tryd.ntmps28
    go_wp2
    go_loop [3] (fun v => ∃ k : Nat, k ≤ s.size ∧ v = .int .i64 k ∧ Hid (allCont s.data.toList = allCont (s.data.toList.drop k))) (fun v => s.size - (intOf v).toNat)
    case atStart => exact ⟨0, by omega, rfl, by simp [Hid]⟩
    case round =>
      obtain ⟨k, hk, rfl, hh⟩ := hrel
      by_cases hlt : k < s.size
      · have hd := drop_cons s k hlt
        cases hcb : contB ((s[k]).toNat : Int)
        · have hf : allCont s.data.toList = false := by
            rw [hh.out, hd, allCont, List.all_cons, show cont8 s[k] = false from hcb]; rfl
          have HF : Hid _ := hf
          have HCB : Hid _ := hcb
          clear hf hcb hd hh
          go_wp2_with (go_at_call 41; refine (letter_any _ _).mono ?_; rintro e w' ⟨rfl, rfl⟩; rw [HCB.out])
          go_ret
          exact ⟨ret_bool HF.out.symm, rfl⟩
        · have hf : allCont s.data.toList = allCont (s.data.toList.drop (k + 1)) := by
            rw [hh.out, hd, allCont, List.all_cons, show cont8 s[k] = true from hcb]; rfl
          have HF : Hid _ := hf
          have HCB : Hid _ := hcb
          clear hf hcb hd hh
          go_wp2_with (go_at_call 41; refine (letter_any _ _).mono ?_; rintro e w' ⟨rfl, rfl⟩; rw [HCB.out])
          go_round
          case rel => exact ⟨k + 1, by omega, by go_num, HF.out⟩
          case measure => simp [intOf]; omega
      · have hf : allCont s.data.toList = true := by
          rw [hh.out, List.drop_of_length_le (by simp; omega)]; rfl
        have HF : Hid _ := hf
        clear hf hh
        go_wp2
        go_ret
        exact ⟨ret_bool HF.out.symm, rfl⟩
theorem rname_any (s : ByteArray) (w : World) :
    Calls Tryd.prog 28 #[.string s] w fun e w' => e = .returned (.bool (nameB s.data.toList)) ∧ w' = w := by
  by_cases ho : s.size < 1 ∨ 20 < s.size
  · have hp : nameB s.data.toList = false := by
      rcases ho with ho | ho
      · rw [empty_of s (by omega)]; rfl
      · exact nameB_long s ho
    rw [hp]; exact rname_out s w ho
  · have h1 : 0 < s.size := by omega
    rw [nameB_of s h1 (by omega), start_eq]
    have hc : allCont s.data.toList = (contB ((s[0]).toNat : Int) && allCont s.data.toList) := by
      have hd := drop_cons s 0 h1
      rw [List.drop_zero] at hd
      rw [hd, allCont, List.all_cons]
      show (contB _ && _) = _
      simp [cont8]
    by_cases hdg : 48 ≤ ((s[0]).toNat : Int) ∧ ((s[0]).toNat : Int) ≤ 57
    · rw [show digitB ((s[0]).toNat : Int) = true from decide_eq_true hdg]
      rw [show (contB ((s[0]).toNat : Int) && !true && allCont s.data.toList) = false from by simp]
      exact rname_digit s w h1 (by omega) hdg
    · rw [show digitB ((s[0]).toNat : Int) = false from decide_eq_false hdg]
      rw [show (contB ((s[0]).toNat : Int) && !false && allCont s.data.toList) = allCont s.data.toList from by rw [Bool.not_false, Bool.and_true]; exact hc.symm]
      exact rname_loop s w h1 (by omega) (by omega)

end Go.Proofs.YtiddlineklfhfaaDoor.T
