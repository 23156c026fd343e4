/- What the document's own answers (Letter, Blank, Run, Name, Parse) come to, and what they leave of the world. -/
import Derived.Test.YtnapmbemoppfbaaDoorPlaces
import Derived.Test.YtnapmbemoppfbaaDoorNamesPlain
import Derived.Test.YtnapmbemoppfbaaDoorNumPlain
namespace Go.Proofs.YtnapmbemoppfbaaDoor
open Go.RowKit

theorem parts9 (c : Int) : c < 48 ∨ (48 ≤ c ∧ c ≤ 57) ∨ (57 < c ∧ c < 65) ∨ (65 ≤ c ∧ c ≤ 90) ∨ (90 < c ∧ c < 95) ∨ c = 95 ∨ c = 96 ∨ (97 ≤ c ∧ c ≤ 122) ∨ 122 < c := by omega
theorem cont_t {c : Int} (h : (97 ≤ c ∧ c ≤ 122) ∨ (65 ≤ c ∧ c ≤ 90) ∨ c = 95 ∨ (48 ≤ c ∧ c ≤ 57)) : contB c = true := by
  unfold contB startB digitB; simp; omega
theorem cont_f {c : Int} (h : ¬ ((97 ≤ c ∧ c ≤ 122) ∨ (65 ≤ c ∧ c ≤ 90) ∨ c = 95 ∨ (48 ≤ c ∧ c ≤ 57))) : contB c = false := by
  unfold contB startB digitB; simp; omega

set_option maxHeartbeats 1000000 in
theorem letter_any (c : Int) (w : World) :
    Calls Tryd.prog 26 #[.int .u8 c] w fun e w' => e = .returned (.bool (contB c)) ∧ w' = w := by
  rcases parts9 c with hq | hq | hq | hq | hq | hq | hq | hq | hq
  all_goals
    try have hq5 : (c == 95) = false := beq_eq_false_iff_ne.2 (by omega)
    try have hq6 : decide (c ≤ 90) = false := decide_eq_false (by omega)
    try have hq7 : decide (c ≤ 122) = false := decide_eq_false (by omega)
    try have hq8 : decide (c ≤ 57) = false := decide_eq_false (by omega)
    go_enter Tryd.func26, Tryd.ntmps26
    go_wp2
    go_ret
    exact ⟨ret_bool (by first | exact (cont_t (by omega)).symm | exact (cont_f (by omega)).symm), rfl⟩

def blankB (c : Int) : Bool := decide (c = 32 ∨ c = 9 ∨ c = 10)
set_option maxHeartbeats 400000 in
theorem blank_any (c : Int) (w : World) :
    Calls Tryd.prog 24 #[.int .u8 c] w fun e w' => e = .returned (.bool (blankB c)) ∧ w' = w := by
  cases h1 : (c == 32) <;> cases h2 : (c == 9)
  all_goals
    have hv : blankB c = ((c == 32) || (c == 9) || (c == 10)) := by unfold blankB; rw [Bool.eq_iff_iff]; simp; omega
    rw [hv, h1, h2]
    clear hv
    go_enter Tryd.func24, Tryd.ntmps24
    go_wp2
    go_ret
    exact ⟨ret_bool (by simp), rfl⟩
set_option maxHeartbeats 400000 in
theorem rblank_any (c : Int) (w : World) :
    Calls Tryd.prog 25 #[.int .u8 c] w fun e w' => e = .returned (.bool (blankB c)) ∧ w' = w := by
  cases h1 : (c == 32) <;> cases h2 : (c == 9)
  all_goals
    have hv : blankB c = ((c == 32) || (c == 9) || (c == 10)) := by unfold blankB; rw [Bool.eq_iff_iff]; simp; omega
    rw [hv, h1, h2]
    clear hv
    go_enter Tryd.func25, Tryd.ntmps25
    go_wp2
    go_ret
    exact ⟨ret_bool (by simp), rfl⟩

theorem start_eq (c : Int) : startB c = (contB c && !digitB c) := by
  unfold contB startB digitB
  rw [Bool.eq_iff_iff]; simp; omega

/-- A text's number, or -1. -/
def refNum : Option Nat → Int
  | some n => n
  | none => -1
set_option maxHeartbeats 400000 in
theorem rparse_out (s : ByteArray) (w : World) (h : s.size < 1 ∨ 9 < s.size) :
    Calls Tryd.prog 15 #[.string s] w fun e w' => e = .returned (.int .i64 (refNum none)) ∧ w' = w := by
  rcases h with h | h
  · go_enter Tryd.func15, Tryd.ntmps15
    go_wp2
    go_ret
    exact ⟨rfl, rfl⟩
  · have h1 : ¬ s.size < 1 := by omega
    go_enter Tryd.func15, Tryd.ntmps15
    go_wp2
    go_ret
    exact ⟨rfl, rfl⟩
set_option maxHeartbeats 400000 in
theorem rparse_zero (s : ByteArray) (w : World) (h : s.size ≤ 9) (h1 : 1 < s.size) (hz : (((s[0]).toNat : Int) == 48) = true) :
    Calls Tryd.prog 15 #[.string s] w fun e w' => e = .returned (.int .i64 (refNum none)) ∧ w' = w := by
  go_enter Tryd.func15, Tryd.ntmps15
  go_wp2
  go_ret
  exact ⟨rfl, rfl⟩
set_option maxHeartbeats 1000000 in
theorem rparse_loop (s : ByteArray) (w : World) (h0 : 1 ≤ s.size) (h : s.size ≤ 9) (hz : s.size ≤ 1 ∨ (((s[0]).toNat : Int) == 48) = false) :
    Calls Tryd.prog 15 #[.string s] w fun e w' => e = .returned (.int .i64 (refNum (digitsV s.data.toList))) ∧ w' = w := by
  have d0 : decide ((s.size : Int) < 1) = false := decide_eq_false (by omega)
  have d1 : decide ((9 : Int) < s.size) = false := decide_eq_false (by omega)
  by_cases h1 : s.size ≤ 1
  all_goals
    try have hz' : (((s[0]).toNat : Int) == 48) = false := hz.resolve_left h1
    try have d2 : decide ((1 : Int) < s.size) = false := decide_eq_false (by omega)
    try have d2 : decide ((1 : Int) < s.size) = true := decide_eq_true (by omega)
    clear hz
    go_enter Tryd.func15, Tryd.ntmps15
    go_wp2
    go_loop [3, 4] (fun v n => ∃ k : Nat, k ≤ s.size ∧ n = .int .i64 k ∧ v = .int .i64 (valOf (s.data.toList.take k)) ∧ Hid (allDigit (s.data.toList.take k) = true)) (fun _ n => s.size - (intOf n).toNat)
    case atStart => exact ⟨0, by omega, rfl, rfl, rfl⟩
    case round =>
      obtain ⟨k, hk, rfl, rfl, hh⟩ := hrel
      by_cases hlt : k < s.size
      · cases hcb : digitB ((s[k]).toNat : Int)
        · have hf := allDigit_no s k hlt hcb
          have HF : Hid _ := hf
          have hb2 := of_decide_eq_false (show decide (48 ≤ ((s[k]).toNat : Int) ∧ ((s[k]).toNat : Int) ≤ 57) = false from hcb)
          clear hf hcb hh
          by_cases hlo : ((s[k]).toNat : Int) < 48
          all_goals
            try have hhi : 57 < ((s[k]).toNat : Int) := by omega
            clear hb2
            go_wp2
            go_ret
            exact ⟨by rw [digitsV, HF.out]; rfl, rfl⟩
        · have hts := take_snoc s k hlt
          have hvs := valOf_snoc (s.data.toList.take k) s[k]
          rw [← hts] at hvs
          have hds := allDigit_snoc (s.data.toList.take k) s[k]
          rw [← hts, hh.out, show digit8 s[k] = true from hcb] at hds
          have hb1 : valOf (s.data.toList.take k) < 100000000 := by
            have hlen : (s.data.toList.take k).length = k := by rw [List.length_take]; simp; omega
            have := valOf_lt k _ hlen hh.out
            have : 10 ^ k ≤ 10 ^ 8 := Nat.pow_le_pow_right (by omega) (by omega)
            omega
          have hb2 := of_decide_eq_true (show decide (48 ≤ ((s[k]).toNat : Int) ∧ ((s[k]).toNat : Int) ≤ 57) = true from hcb)
          have hvs2 : ((valOf (s.data.toList.take (k + 1)) : Nat) : Int) = (valOf (s.data.toList.take k) : Nat) * 10 + (((s[k]).toNat : Int) - 48) := by rw [hvs]; omega
          have HV : Hid _ := hvs2
          have HD : Hid _ := hds
          clear hts hvs hds hvs2 hcb hh
          go_wp2
          go_round
          case rel => exact ⟨k + 1, by omega, by go_num, by rw [HV.out], HD.out⟩
          case measure => simp [intOf]; omega
      · have hk2 : s.data.toList.take k = s.data.toList := List.take_of_length_le (by simp; omega)
        rw [hk2] at hh
        rw [hk2]
        clear hk2
        go_wp2
        go_ret
        exact ⟨by rw [digitsV, hh.out]; rfl, rfl⟩
theorem rparse_any (s : ByteArray) (w : World) :
    Calls Tryd.prog 15 #[.string s] w fun e w' => e = .returned (.int .i64 (refNum (parseV s.data.toList))) ∧ w' = w := by
  have hl : s.data.toList.length = s.size := by simp
  by_cases ho : s.size < 1 ∨ 9 < s.size
  · have hp : parseV s.data.toList = none := by
      rcases ho with ho | ho
      · rw [empty_of s (by omega)]; rfl
      · exact parseV_long _ (by omega)
    rw [hp]; exact rparse_out s w ho
  · have h1 : 0 < s.size := by omega
    by_cases hz : s[0] = 48
    · by_cases hs : 1 < s.size
      · rw [parseV_zero _ (by rw [head_of s h1, hz]) (by omega)]
        exact rparse_zero s w (by omega) hs (by rw [hz]; rfl)
      · rw [parseV_of _ (by omega) (by omega) (fun _ => by omega)]
        exact rparse_loop s w h1 (by omega) (.inl (by omega))
    · rw [parseV_of _ (by omega) (by omega) (fun hh => by rw [head_of s h1] at hh; exact absurd (Option.some.inj hh) hz)]
      exact rparse_loop s w h1 (by omega) (.inr (by rw [beq_eq_false_iff_ne]; exact fun hh => hz ((u8_eq _ _).2 hh)))
end Go.Proofs.YtnapmbemoppfbaaDoor
