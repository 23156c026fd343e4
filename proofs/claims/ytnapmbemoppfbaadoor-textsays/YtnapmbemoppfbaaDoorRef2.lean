/- What the document's own Name and Run come to, and what they leave of the world. -/
import Derived.Test.YtnapmbemoppfbaaDoorRef
import Derived.Deep.DeepCutAuto
namespace Go.Proofs.YtnapmbemoppfbaaDoor
open Go.RowKit

set_option maxHeartbeats 400000 in
theorem rname_out (s : ByteArray) (w : World) (h : s.size < 1 ∨ 20 < s.size) :
    Calls Tryd.prog 21 #[.string s] w fun e w' => e = .returned (.bool false) ∧ w' = w := by
  rcases h with h | h
  · go_enter Tryd.func21, Tryd.ntmps21
    go_wp2
    go_ret
    exact ⟨rfl, rfl⟩
  · have h1 : ¬ s.size < 1 := by omega
    go_enter Tryd.func21, Tryd.ntmps21
    go_wp2
    go_ret
    exact ⟨rfl, rfl⟩
set_option maxHeartbeats 400000 in
theorem rname_digit (s : ByteArray) (w : World) (h0 : 1 ≤ s.size) (h : s.size ≤ 20) (hd : 48 ≤ ((s[0]).toNat : Int) ∧ ((s[0]).toNat : Int) ≤ 57) :
    Calls Tryd.prog 21 #[.string s] w fun e w' => e = .returned (.bool false) ∧ w' = w := by
  go_enter Tryd.func21, Tryd.ntmps21
  go_wp2
  go_ret
  exact ⟨rfl, rfl⟩
set_option maxHeartbeats 1000000 in
theorem rname_loop (s : ByteArray) (w : World) (h0 : 1 ≤ s.size) (h : s.size ≤ 20) (hd : ((s[0]).toNat : Int) < 48 ∨ 57 < ((s[0]).toNat : Int)) :
    Calls Tryd.prog 21 #[.string s] w fun e w' => e = .returned (.bool (allCont s.data.toList)) ∧ w' = w := by
  have d0 : decide ((s.size : Int) < 1) = false := decide_eq_false (by omega)
  have d1 : decide ((20 : Int) < s.size) = false := decide_eq_false (by omega)
  by_cases hlo : ((s[0]).toNat : Int) < 48
  all_goals
    try have d3 : decide (48 ≤ ((s[0]).toNat : Int)) = false := decide_eq_false (by omega)
    try have d3 : decide (48 ≤ ((s[0]).toNat : Int)) = true := decide_eq_true (by omega)
    try have d4 : decide (((s[0]).toNat : Int) ≤ 57) = false := decide_eq_false (by omega)
    try have d5 : 57 < ((s[0]).toNat : Int) := by omega
    clear hd
    go_enter Tryd.func21, Tryd.ntmps21
    go_wp2
    go_loop [3] (fun v => ∃ k : Nat, k ≤ s.size ∧ v = .int .i64 k ∧ Hid (allCont s.data.toList = allCont (s.data.toList.drop k))) (fun v => s.size - (intOf v).toNat)
    case atStart => exact ⟨0, by omega, rfl, by simp [Hid]⟩
    case round =>
      obtain ⟨k, hk, rfl, hh⟩ := hrel
      by_cases hlt : k < s.size
      · have hd := drop_cons s k hlt
        cases hcb : contB ((s[k]).toNat : Int)
        · have hf : allCont s.data.toList = false := by
            rw [hh.out, hd, allCont, List.all_cons, show cont8 s[k] = false from hcb]; rfl
          have HF : Hid _ := hf
          have HCB : Hid _ := hcb
          clear hf hcb hd hh
          go_wp2_with (go_at_call 26; refine (letter_any _ _).mono ?_; rintro e w' ⟨rfl, rfl⟩; rw [HCB.out])
          go_ret
          exact ⟨ret_bool HF.out.symm, rfl⟩
        · have hf : allCont s.data.toList = allCont (s.data.toList.drop (k + 1)) := by
            rw [hh.out, hd, allCont, List.all_cons, show cont8 s[k] = true from hcb]; rfl
          have HF : Hid _ := hf
          have HCB : Hid _ := hcb
          clear hf hcb hd hh
          go_wp2_with (go_at_call 26; refine (letter_any _ _).mono ?_; rintro e w' ⟨rfl, rfl⟩; rw [HCB.out])
          go_round
          case rel => exact ⟨k + 1, by omega, by go_num, HF.out⟩
          case measure => simp [intOf]; omega
      · have hf : allCont s.data.toList = true := by
          rw [hh.out, List.drop_of_length_le (by simp; omega)]; rfl
        have HF : Hid _ := hf
        clear hf hh
        go_wp2
        go_ret
        exact ⟨ret_bool HF.out.symm, rfl⟩
theorem rname_any (s : ByteArray) (w : World) :
    Calls Tryd.prog 21 #[.string s] w fun e w' => e = .returned (.bool (nameB s.data.toList)) ∧ w' = w := by
  by_cases ho : s.size < 1 ∨ 20 < s.size
  · have hp : nameB s.data.toList = false := by
      rcases ho with ho | ho
      · rw [empty_of s (by omega)]; rfl
      · exact nameB_long s ho
    rw [hp]; exact rname_out s w ho
  · have h1 : 0 < s.size := by omega
    rw [nameB_of s h1 (by omega), start_eq]
    have hc : allCont s.data.toList = (contB ((s[0]).toNat : Int) && allCont s.data.toList) := by
      have hd := drop_cons s 0 h1
      rw [List.drop_zero] at hd
      rw [hd, allCont, List.all_cons]
      show (contB _ && _) = _
      simp [cont8]
    by_cases hdg : 48 ≤ ((s[0]).toNat : Int) ∧ ((s[0]).toNat : Int) ≤ 57
    · rw [show digitB ((s[0]).toNat : Int) = true from decide_eq_true hdg]
      rw [show (contB ((s[0]).toNat : Int) && !true && allCont s.data.toList) = false from by simp]
      exact rname_digit s w h1 (by omega) hdg
    · rw [show digitB ((s[0]).toNat : Int) = false from decide_eq_false hdg]
      rw [show (contB ((s[0]).toNat : Int) && !false && allCont s.data.toList) = allCont s.data.toList from by rw [Bool.not_false, Bool.and_true]; exact hc.symm]
      exact rname_loop s w h1 (by omega) (by omega)

theorem runAt_take (s : ByteArray) (a : Nat) : (s.data.toList.drop a).take (runAt s a).length = runAt s a := by
  unfold runAt
  exact (List.prefix_iff_eq_take.1 (List.takeWhile_prefix cont8)).symm
theorem runAt_len (s : ByteArray) (a : Nat) : (runAt s a).length ≤ s.size - a := by
  have h := congrArg List.length (runAt_take s a)
  rw [List.length_take, List.length_drop] at h
  have hz : s.data.toList.length = s.size := by simp
  omega

set_option maxHeartbeats 1000000 in
theorem rrun_no (s : ByteArray) (a : Nat) (w : World) (ha : a < s.size) (hst : startB ((s[a]).toNat : Int) = false) :
    Calls Tryd.prog 12 #[.string s, .int .i64 a] w fun e w' => e = .returned (.int .i64 a) ∧ w' = w := by
  cases hcb : contB ((s[a]).toNat : Int)
  · have HCB : Hid _ := hcb
    clear hcb hst
    go_enter Tryd.func12, Tryd.ntmps12
    go_wp2_with (go_at_call 26; refine (letter_any _ _).mono ?_; rintro e w' ⟨rfl, rfl⟩; rw [HCB.out])
    go_ret
    exact ⟨rfl, rfl⟩
  · rw [start_eq, hcb] at hst
    have hd : 48 ≤ ((s[a]).toNat : Int) ∧ ((s[a]).toNat : Int) ≤ 57 := of_decide_eq_true (by simpa [digitB] using hst)
    have HCB : Hid _ := hcb
    clear hcb hst
    go_enter Tryd.func12, Tryd.ntmps12
    go_wp2_with (go_at_call 26; refine (letter_any _ _).mono ?_; rintro e w' ⟨rfl, rfl⟩; rw [HCB.out])
    go_ret
    exact ⟨rfl, rfl⟩
set_option maxHeartbeats 1000000 in
theorem rrun_yes (s : ByteArray) (a : Nat) (w : World) (ha : a < s.size) (hz : s.size ≤ 8192) (hst : startB ((s[a]).toNat : Int) = true) :
    Calls Tryd.prog 12 #[.string s, .int .i64 a] w fun e w' => e = .returned (.int .i64 ((a + (runAt s a).length : Nat) : Int)) ∧ w' = w := by
  have hst2 := of_decide_eq_true (show decide ((97 ≤ ((s[a]).toNat : Int) ∧ ((s[a]).toNat : Int) ≤ 122) ∨ (65 ≤ ((s[a]).toNat : Int) ∧ ((s[a]).toNat : Int) ≤ 90) ∨ ((s[a]).toNat : Int) = 95) = true from hst)
  have hcb : contB ((s[a]).toNat : Int) = true := cont_of_start _ hst
  have d3 : decide (48 ≤ ((s[a]).toNat : Int)) = true := decide_eq_true (by omega)
  have d4 : decide (((s[a]).toNat : Int) ≤ 57) = false := decide_eq_false (by omega)
  have d5 : decide ((a : Int) < 0) = false := decide_eq_false (by omega)
  have d6 : decide (s.size ≤ a) = false := decide_eq_false (by omega)
  have HCB : Hid _ := hcb
  clear hcb hst hst2
  go_enter Tryd.func12, Tryd.ntmps12
  go_wp2_with (go_at_call 26; refine (letter_any _ _).mono ?_; rintro e w' ⟨rfl, rfl⟩; rw [HCB.out])
  clear HCB
  go_loopg [5] (s.size - a) (fun g v wr => ∃ k : Nat, a ≤ k ∧ k ≤ s.size ∧ s.size - k = g ∧ v = .int .i64 k ∧ Hid (a + (runAt s a).length = k + (runAt s k).length) ∧ wr = w')
  case atStart => exact ⟨a, Nat.le_refl _, by omega, rfl, rfl, rfl, rfl⟩
  case round =>
    obtain ⟨k, hak, hks, hgk, rfl, hh, rfl⟩ := hrel
    by_cases hlt : k < s.size
    · cases hcb : contB ((s[k]).toNat : Int)
      · have hf : a + (runAt s a).length = k := by rw [hh.out, runAt_stop s k hlt hcb]; rfl
        have HF : Hid _ := hf
        have HCB : Hid _ := hcb
        clear hf hcb hh
        go_wp2_with (go_at_call 26; refine (letter_any _ _).mono ?_; rintro e w' ⟨rfl, rfl⟩; rw [HCB.out])
        go_ret
        exact ⟨ret_int (by have := HF.out; omega), rfl⟩
      · have hf : a + (runAt s a).length = (k + 1) + (runAt s (k + 1)).length := by rw [hh.out, runAt_more s k hlt hcb]; simp; omega
        have HF : Hid _ := hf
        have HCB : Hid _ := hcb
        clear hf hcb hh
        go_wp2_with (go_at_call 26; refine (letter_any _ _).mono ?_; rintro e w' ⟨rfl, rfl⟩; rw [HCB.out])
        go_roundg (s.size - (k + 1))
        case measure => omega
        case rel => exact ⟨k + 1, by omega, by omega, rfl, by go_num, HF.out, rfl⟩
    · have hk2 : k = s.size := by omega
      have hf : a + (runAt s a).length = k := by rw [hh.out, hk2, runAt_end s]; rfl
      have HF : Hid _ := hf
      clear hf hh hk2
      go_wp2
      go_ret
      exact ⟨ret_int (by have := HF.out; omega), rfl⟩
/-- The piece of a source that is a name's run is what Name answers. -/
theorem rrun_any (s : ByteArray) (a : Nat) (w : World) (ha : a < s.size) (hz : s.size ≤ 8192) :
    Calls Tryd.prog 12 #[.string s, .int .i64 a] w fun e w' => ∃ b : Nat, e = .returned (.int .i64 b) ∧ w' = w ∧ a ≤ b ∧ b ≤ s.size ∧ s.extract a b = ⟨(nameAt s a).toArray⟩ := by
  have hn : nameAt s (a : Int) = if startB ((s[a]).toNat : Int) then runAt s a else [] := by
    unfold nameAt
    rw [dif_pos ⟨by omega, by omega⟩]
    simp only [Int.toNat_natCast]
  cases hst : startB ((s[a]).toNat : Int)
  · refine (rrun_no s a w ha hst).mono ?_
    rintro e w' ⟨rfl, rfl⟩
    exact ⟨a, rfl, rfl, Nat.le_refl _, by omega, by rw [hn, hst, extract_none _ _ _ (Nat.le_refl _)]; rfl⟩
  · refine (rrun_yes s a w ha hz hst).mono ?_
    rintro e w' ⟨rfl, rfl⟩
    have hl := runAt_len s a
    exact ⟨a + (runAt s a).length, rfl, rfl, by omega, by omega, by rw [hn, hst, Lib.extract_eq, show a + (runAt s a).length - a = (runAt s a).length by omega, runAt_take]; rfl⟩
end Go.Proofs.YtnapmbemoppfbaaDoor
