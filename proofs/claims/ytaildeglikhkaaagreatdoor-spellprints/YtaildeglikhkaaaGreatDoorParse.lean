/- text.Parse. -/
import Derived.Test.YtaildeglikhkaaaGreatDoorText
namespace Go.Proofs.YtaildeglikhkaaaGreatDoor
open Go.RowKit

theorem u8_eq (a b : UInt8) : a = b ↔ (a.toNat : Int) = (b.toNat : Int) := by
  constructor
  · intro h; rw [h]
  · intro h; exact UInt8.toNat_inj.1 (by omega)
def digit8 (b : UInt8) : Bool := digitB (b.toNat : Int)
def valOf (l : List UInt8) : Nat := l.foldl (fun n b => n * 10 + (b.toNat - 48)) 0
def parseV (l : List UInt8) : Option Nat :=
  if l = [] ∨ 9 < l.length ∨ (l.head? = some 48 ∧ 1 < l.length) then none else if l.all digit8 then some (valOf l) else none
theorem valOf_snoc (l : List UInt8) (b : UInt8) : valOf (l ++ [b]) = valOf l * 10 + (b.toNat - 48) := by simp [valOf, List.foldl_append]
theorem valOf_lt : ∀ (n : Nat) (l : List UInt8), l.length = n → l.all digit8 = true → valOf l < 10 ^ n
  | 0, l, h, _ => by rw [List.eq_nil_of_length_eq_zero h]; simp [valOf]
  | n + 1, l, h, hd => by
    obtain ⟨m, b, rfl⟩ : ∃ m b, l = m ++ [b] := ⟨l.dropLast, l.getLast (by intro e; rw [e] at h; simp at h), (List.dropLast_concat_getLast _).symm⟩
    rw [List.all_append] at hd
    have h1 : m.all digit8 = true := by simp at hd; simp; exact hd.1
    have h2 : digit8 b = true := by simp at hd; exact hd.2
    have ih := valOf_lt n m (by simp at h; exact h) h1
    rw [valOf_snoc, Nat.pow_succ]
    unfold digit8 digitB at h2
    have h3 := of_decide_eq_true h2
    omega
theorem parseV_nil : parseV [] = none := by decide
theorem parseV_long (l : List UInt8) (h : 9 < l.length) : parseV l = none := by
  unfold parseV; rw [if_pos (.inr (.inl h))]
theorem parseV_zero (l : List UInt8) (h : l.head? = some 48) (h1 : 1 < l.length) : parseV l = none := by
  unfold parseV; rw [if_pos (.inr (.inr ⟨h, h1⟩))]
def allDigit (l : List UInt8) : Bool := l.all digit8
def digitsV (l : List UInt8) : Option Nat := if allDigit l then some (valOf l) else none
theorem parseV_of (l : List UInt8) (h0 : 0 < l.length) (h : l.length ≤ 9) (hz : l.head? = some 48 → l.length ≤ 1) : parseV l = digitsV l := by
  have hn : ¬ (l = [] ∨ 9 < l.length ∨ (l.head? = some 48 ∧ 1 < l.length)) := by
    rintro (h1 | h1 | ⟨h1, h2⟩)
    · rw [h1] at h0; simp at h0
    · omega
    · have := hz h1; omega
  unfold parseV; rw [if_neg hn]; rfl
theorem allDigit_snoc (l : List UInt8) (b : UInt8) : allDigit (l ++ [b]) = (allDigit l && digit8 b) := by
  unfold allDigit; rw [List.all_append]; simp
theorem allDigit_no (s : ByteArray) (k : Nat) (h : k < s.size) (hd : digitB ((s[k]).toNat : Int) = false) : allDigit s.data.toList = false := by
  have e := List.take_append_drop k s.data.toList
  unfold allDigit
  rw [← e, drop_cons s k h, List.all_append, List.all_cons, show digit8 s[k] = false from hd]
  simp
theorem head_of (s : ByteArray) (h0 : 0 < s.size) : s.data.toList.head? = some s[0] := by
  have hd := drop_cons s 0 h0
  rw [List.drop_zero] at hd
  rw [hd]; rfl
/-- What Parse hands back. -/
def parseRet : Option Nat → Value
  | some n => .tuple #[.int .i64 n, .bool true]
  | none => .tuple #[.int .i64 0, .bool false]

set_option maxHeartbeats 400000 in
theorem parse_empty (w : World) :
    Calls Tryz.prog 104 #[.string ⟨#[]⟩] w fun e w' => e = .returned (parseRet none) ∧ w' = w := by
  go_enter Tryz.func104, Tryz.ntmps104
  go_wp2
  go_ret2
  exact ⟨rfl, rfl⟩
set_option maxHeartbeats 400000 in
theorem parse_long (s : ByteArray) (w : World) (h : 9 < s.size) (hne : s.toList.isEmpty = false) :
    Calls Tryz.prog 104 #[.string s] w fun e w' => e = .returned (parseRet none) ∧ w' = w := by
  go_enter Tryz.func104, Tryz.ntmps104
  go_wp2
  go_ret2
  exact ⟨rfl, rfl⟩
set_option maxHeartbeats 400000 in
theorem parse_zero (s : ByteArray) (w : World) (h : s.size ≤ 9) (h1 : 1 < s.size) (hne : s.toList.isEmpty = false) (hz : (((s[0]).toNat : Int) == 48) = true) :
    Calls Tryz.prog 104 #[.string s] w fun e w' => e = .returned (parseRet none) ∧ w' = w := by
  go_enter Tryz.func104, Tryz.ntmps104
  go_wp2
  go_ret2
  exact ⟨rfl, rfl⟩
theorem ret_num {a b : Int} (h : a = b) : Ending.returned (.tuple #[.int .i64 a, .bool true]) = .returned (.tuple #[.int .i64 b, .bool true]) := by rw [h]
set_option maxHeartbeats 1000000 in
theorem parse_loop (s : ByteArray) (w : World) (h0 : 0 < s.size) (h : s.size ≤ 9) (hne : s.toList.isEmpty = false) (z : Bool) (hz1 : z = true → s.size ≤ 1) (hz : (((s[0]).toNat : Int) == 48) = z) :
    Calls Tryz.prog 104 #[.string s] w fun e w' => e = .returned (parseRet (digitsV s.data.toList)) ∧ w' = w := by
  cases z
  all_goals
    have d1 : decide ((9 : Int) < s.size) = false := decide_eq_false (by omega)
    try have d2 : decide ((1 : Int) < s.size) = false := decide_eq_false (by have := hz1 rfl; omega)
    clear hz1
    go_enter Tryz.func104, Tryz.ntmps104
    go_wp2
    go_loop [4, 25] (fun v n => ∃ k : Nat, k ≤ s.size ∧ n = .int .i64 k ∧ v = .int .i64 (valOf (s.data.toList.take k)) ∧ Hid (allDigit (s.data.toList.take k) = true)) (fun _ n => s.size - (intOf n).toNat)
    case atStart => exact ⟨0, by omega, rfl, rfl, rfl⟩
    case round =>
      obtain ⟨k, hk, rfl, rfl, hh⟩ := hrel
      by_cases hlt : k < s.size
      · cases hcb : digitB ((s[k]).toNat : Int)
        · have hf := allDigit_no s k hlt hcb
          have HF : Hid _ := hf
          have HCB : Hid _ := hcb
          clear hf hcb hh
          go_wp2_with (go_at_call 102; refine (digit_any _ _).mono ?_; rintro e w' ⟨rfl, rfl⟩; rw [HCB.out])
          go_ret2
          exact ⟨by rw [digitsV, HF.out]; rfl, rfl⟩
        · have hts := take_snoc s k hlt
          have hvs := valOf_snoc (s.data.toList.take k) s[k]
          rw [← hts] at hvs
          have hds := allDigit_snoc (s.data.toList.take k) s[k]
          rw [← hts, hh.out, show digit8 s[k] = true from hcb] at hds
          have hb1 : valOf (s.data.toList.take k) < 100000000 := by
            have hlen : (s.data.toList.take k).length = k := by rw [List.length_take]; simp; omega
            have := valOf_lt k _ hlen hh.out
            have : 10 ^ k ≤ 10 ^ 8 := Nat.pow_le_pow_right (by omega) (by omega)
            omega
          have hb2 := of_decide_eq_true (show decide (48 ≤ ((s[k]).toNat : Int) ∧ ((s[k]).toNat : Int) ≤ 57) = true from hcb)
          have hvs2 : ((valOf (s.data.toList.take (k + 1)) : Nat) : Int) = (valOf (s.data.toList.take k) : Nat) * 10 + (((s[k]).toNat : Int) - 48) := by rw [hvs]; omega
          have HV : Hid _ := hvs2
          have HD : Hid _ := hds
          have HCB : Hid _ := hcb
          clear hts hvs hds hvs2 hcb hh
          go_wp2_with (go_at_call 102; refine (digit_any _ _).mono ?_; rintro e w' ⟨rfl, rfl⟩; rw [HCB.out])
          go_round
          case rel => exact ⟨k + 1, by omega, by go_num, by rw [HV.out], HD.out⟩
          case measure => simp [intOf]; omega
      · have hk2 : s.data.toList.take k = s.data.toList := List.take_of_length_le (by simp; omega)
        rw [hk2] at hh
        rw [hk2]
        clear hk2
        go_wp2
        go_ret2
        exact ⟨by rw [digitsV, hh.out]; rfl, rfl⟩
theorem parse_any (s : ByteArray) (w : World) :
    Calls Tryz.prog 104 #[.string s] w fun e w' => e = .returned (parseRet (parseV s.data.toList)) ∧ w' = w := by
  have hl : s.data.toList.length = s.size := by simp
  by_cases h0 : s.size = 0
  · rw [empty_of s h0]; exact parse_empty w
  · have h1 : 0 < s.size := by omega
    have hne := nonempty_of s h1
    by_cases h : s.size ≤ 9
    · by_cases hz : s[0] = 48
      · by_cases hs : 1 < s.size
        · rw [parseV_zero _ (by rw [head_of s h1, hz]) (by omega)]
          exact parse_zero s w h hs hne (by rw [hz]; rfl)
        · rw [parseV_of _ (by omega) (by omega) (fun _ => by omega)]
          exact parse_loop s w h1 h hne true (fun _ => by omega) (by rw [hz]; rfl)
      · rw [parseV_of _ (by omega) (by omega) (fun hh => by rw [head_of s h1] at hh; exact absurd (Option.some.inj hh) hz)]
        exact parse_loop s w h1 h hne false (fun hh => by cases hh) (by rw [beq_eq_false_iff_ne]; exact fun hh => hz ((u8_eq _ _).2 hh))
    · rw [parseV_long _ (by omega)]
      exact parse_long s w (by omega) hne
end Go.Proofs.YtaildeglikhkaaaGreatDoor
