/- What Parse answers, and what it leaves of the world. -/
import Derived.Test.YtnapmbemoppfbaaDoorCalls
namespace Go.Proofs.YtnapmbemoppfbaaDoor
open Go.RowKit

/-- What Parse hands back. -/
def parseRet : Option Nat → Value
  | some n => .tuple #[.int .i64 n, .bool true]
  | none => .tuple #[.int .i64 0, .bool false]

set_option maxHeartbeats 400000 in
theorem parse_empty (w : World) :
    Calls Tryd.prog 14 #[.string ⟨#[]⟩] w fun e w' => e = .returned (parseRet none) ∧ w' = w := by
  go_enter Tryd.func14, Tryd.ntmps14
  go_wp2
  go_ret2
  exact ⟨rfl, rfl⟩
set_option maxHeartbeats 400000 in
theorem parse_long (s : ByteArray) (w : World) (h : 9 < s.size) (hne : s.toList.isEmpty = false) :
    Calls Tryd.prog 14 #[.string s] w fun e w' => e = .returned (parseRet none) ∧ w' = w := by
  go_enter Tryd.func14, Tryd.ntmps14
  go_wp2
  go_ret2
  exact ⟨rfl, rfl⟩
set_option maxHeartbeats 400000 in
theorem parse_zero (s : ByteArray) (w : World) (h : s.size ≤ 9) (h1 : 1 < s.size) (hne : s.toList.isEmpty = false) (hz : (((s[0]).toNat : Int) == 48) = true) :
    Calls Tryd.prog 14 #[.string s] w fun e w' => e = .returned (parseRet none) ∧ w' = w := by
  go_enter Tryd.func14, Tryd.ntmps14
  go_wp2
  go_ret2
  exact ⟨rfl, rfl⟩
theorem ret_num {a b : Int} (h : a = b) : Ending.returned (.tuple #[.int .i64 a, .bool true]) = .returned (.tuple #[.int .i64 b, .bool true]) := by rw [h]
set_option maxHeartbeats 1000000 in
theorem parse_loop (s : ByteArray) (w : World) (h0 : 0 < s.size) (h : s.size ≤ 9) (hne : s.toList.isEmpty = false) (z : Bool) (hz1 : z = true → s.size ≤ 1) (hz : (((s[0]).toNat : Int) == 48) = z) :
    Calls Tryd.prog 14 #[.string s] w fun e w' => e = .returned (parseRet (digitsV s.data.toList)) ∧ w' = w := by
  cases z
  all_goals
    have d1 : decide ((9 : Int) < s.size) = false := decide_eq_false (by omega)
    try have d2 : decide ((1 : Int) < s.size) = false := decide_eq_false (by have := hz1 rfl; omega)
    clear hz1
    go_enter Tryd.func14, Tryd.ntmps14
    go_wp2
    go_loop [4, 25] (fun v n => ∃ k : Nat, k ≤ s.size ∧ n = .int .i64 k ∧ v = .int .i64 (valOf (s.data.toList.take k)) ∧ Hid (allDigit (s.data.toList.take k) = true)) (fun _ n => s.size - (intOf n).toNat)
    case atStart => exact ⟨0, by omega, rfl, rfl, rfl⟩
    case round =>
      obtain ⟨k, hk, rfl, rfl, hh⟩ := hrel
      by_cases hlt : k < s.size
      · cases hcb : digitB ((s[k]).toNat : Int)
        · have hf := allDigit_no s k hlt hcb
          have HF : Hid _ := hf
          have HCB : Hid _ := hcb
          clear hf hcb hh
          go_wp2_with (go_at_call 30; refine (digit_any _ _).mono ?_; rintro e w' ⟨rfl, rfl⟩; rw [HCB.out])
          go_ret2
          exact ⟨by rw [digitsV, HF.out]; rfl, rfl⟩
        · have hts := take_snoc s k hlt
          have hvs := valOf_snoc (s.data.toList.take k) s[k]
          rw [← hts] at hvs
          have hds := allDigit_snoc (s.data.toList.take k) s[k]
          rw [← hts, hh.out, show digit8 s[k] = true from hcb] at hds
          have hb1 : valOf (s.data.toList.take k) < 100000000 := by
            have hlen : (s.data.toList.take k).length = k := by rw [List.length_take]; simp; omega
            have := valOf_lt k _ hlen hh.out
            have : 10 ^ k ≤ 10 ^ 8 := Nat.pow_le_pow_right (by omega) (by omega)
            omega
          have hb2 := of_decide_eq_true (show decide (48 ≤ ((s[k]).toNat : Int) ∧ ((s[k]).toNat : Int) ≤ 57) = true from hcb)
          have hvs2 : ((valOf (s.data.toList.take (k + 1)) : Nat) : Int) = (valOf (s.data.toList.take k) : Nat) * 10 + (((s[k]).toNat : Int) - 48) := by rw [hvs]; omega
          have HV : Hid _ := hvs2
          have HD : Hid _ := hds
          have HCB : Hid _ := hcb
          clear hts hvs hds hvs2 hcb hh
          go_wp2_with (go_at_call 30; refine (digit_any _ _).mono ?_; rintro e w' ⟨rfl, rfl⟩; rw [HCB.out])
          go_round
          case rel => exact ⟨k + 1, by omega, by go_num, by rw [HV.out], HD.out⟩
          case measure => simp [intOf]; omega
      · have hk2 : s.data.toList.take k = s.data.toList := List.take_of_length_le (by simp; omega)
        rw [hk2] at hh
        rw [hk2]
        clear hk2
        go_wp2
        go_ret2
        exact ⟨by rw [digitsV, hh.out]; rfl, rfl⟩
theorem parse_any (s : ByteArray) (w : World) :
    Calls Tryd.prog 14 #[.string s] w fun e w' => e = .returned (parseRet (parseV s.data.toList)) ∧ w' = w := by
  have hl : s.data.toList.length = s.size := by simp
  by_cases h0 : s.size = 0
  · rw [empty_of s h0]; exact parse_empty w
  · have h1 : 0 < s.size := by omega
    have hne := nonempty_of s h1
    by_cases h : s.size ≤ 9
    · by_cases hz : s[0] = 48
      · by_cases hs : 1 < s.size
        · rw [parseV_zero _ (by rw [head_of s h1, hz]) (by omega)]
          exact parse_zero s w h hs hne (by rw [hz]; rfl)
        · rw [parseV_of _ (by omega) (by omega) (fun _ => by omega)]
          exact parse_loop s w h1 h hne true (fun _ => by omega) (by rw [hz]; rfl)
      · rw [parseV_of _ (by omega) (by omega) (fun hh => by rw [head_of s h1] at hh; exact absurd (Option.some.inj hh) hz)]
        exact parse_loop s w h1 h hne false (fun hh => by cases hh) (by rw [beq_eq_false_iff_ne]; exact fun hh => hz ((u8_eq _ _).2 hh))
    · rw [parseV_long _ (by omega)]
      exact parse_long s w (by omega) hne
end Go.Proofs.YtnapmbemoppfbaaDoor
