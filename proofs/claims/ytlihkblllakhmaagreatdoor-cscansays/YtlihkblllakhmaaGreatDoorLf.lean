/- What the small functions answer: digits, names, a source's bytes. -/
import Derived.Test.YtlihkblllakhmaaGreatDoorMem
import Derived.Lib.Strings
namespace Go.Proofs.YtlihkblllakhmaaGreatDoor
open Go.RowKit
attribute [local go_sem] Oper.semAt_some

theorem ret_int {k : IntKind} {a b : Int} (h : a = b) : Ending.returned (.int k a) = .returned (.int k b) := by rw [h]
theorem ret_bool {a b : Bool} (h : a = b) : Ending.returned (.bool a) = .returned (.bool b) := by rw [h]
theorem ret_str {a b : ByteArray} (h : a = b) : Ending.returned (.string a) = .returned (.string b) := by rw [h]
theorem digit_any (c : Int) (w : World) : Calls Tryz.prog 118 #[.int .u8 c] w fun e w' => e = .returned (.bool (digitB c)) ∧ w' = w := by
  by_cases h1 : 48 ≤ c
  all_goals
    go_enter Tryz.func118, Tryz.ntmps118
    go_wp2_with fail
    go_ret
    exact ⟨ret_bool (by simp [digitB]; omega), rfl⟩
theorem start_any (c : Int) (w : World) : Calls Tryz.prog 115 #[.int .u8 c] w fun e w' => e = .returned (.bool (startB c)) ∧ w' = w := by
  by_cases h1 : 97 ≤ c <;> by_cases h2 : c ≤ 122 <;> by_cases h3 : 65 ≤ c <;> by_cases h4 : c ≤ 90
  all_goals first | (exfalso; omega) | skip
  all_goals
    go_enter Tryz.func115, Tryz.ntmps115
    go_wp2_with fail
    go_ret
    exact ⟨ret_bool (by rw [Bool.eq_iff_iff]; simp [startB]; try omega), rfl⟩
theorem cont_any (c : Int) (w : World) : Calls Tryz.prog 116 #[.int .u8 c] w fun e w' => e = .returned (.bool (contB c)) ∧ w' = w := by
  cases h : startB c with
  | true =>
    go_enter Tryz.func116, Tryz.ntmps116
    go_wp2_with fail
    refine (start_any _ _).mono ?_
    rintro e w1 ⟨rfl, rfl⟩
    rw [h]
    go_wp2_with fail
    go_ret
    exact ⟨ret_bool (by simp [contB, h]), rfl⟩
  | false =>
    go_enter Tryz.func116, Tryz.ntmps116
    go_wp2_with fail
    refine (start_any _ _).mono ?_
    rintro e w1 ⟨rfl, rfl⟩
    rw [h]
    go_wp2_with fail
    refine (digit_any _ _).mono ?_
    rintro e w1 ⟨rfl, rfl⟩
    go_wp2_with fail
    go_ret
    exact ⟨ret_bool (by simp [contB, h]), rfl⟩
/-- A digit of an argument. -/
def cntB (c : Int) : Bool := decide (49 ≤ c) && decide (c ≤ 57)
theorem counts_any (c : Int) (w : World) : Calls Tryz.prog 103 #[.int .u8 c] w fun e w' => e = .returned (.bool (cntB c)) ∧ w' = w := by
  by_cases h1 : 49 ≤ c
  all_goals
    go_enter Tryz.func103, Tryz.ntmps103
    go_wp2_with fail
    go_ret
    exact ⟨ret_bool (by simp [cntB]; omega), rfl⟩
theorem cntB_byte (c : UInt8) : cntB (c.toNat : Nat) = cnts c := by
  unfold cntB cnts
  rw [Bool.eq_iff_iff]
  simp
  omega

/-! ### a source -/
theorem len_any (b : Nat) (s : ByteArray) (w : World) (hc : w.cell? ⟨b, 0, none⟩ = some (.string s)) :
    Calls Tryz.prog 33 #[.pointer (some ⟨b, 0, none⟩)] w fun e w' => e = .returned (.int .i64 s.size) ∧ w' = w := by
  go_enter Tryz.func33, Tryz.ntmps33
  go_wp2_with fail
  go_ret
  exact ⟨rfl, rfl⟩
theorem isPlace_any (b : Nat) (s : ByteArray) (i : Int) (w : World) (hc : w.cell? ⟨b, 0, none⟩ = some (.string s)) (h0 : 0 ≤ i) :
    Calls Tryz.prog 61 #[.pointer (some ⟨b, 0, none⟩), .int .i64 i] w fun e w' => e = .returned (.bool (decide (i ≤ s.size))) ∧ w' = w := by
  go_enter Tryz.func61, Tryz.ntmps61
  go_wp2_with fail
  go_ret
  exact ⟨rfl, rfl⟩
theorem within_any (b : Nat) (s : ByteArray) (i : Int) (w : World) (hc : w.cell? ⟨b, 0, none⟩ = some (.string s)) :
    Calls Tryz.prog 81 #[.pointer (some ⟨b, 0, none⟩), .int .i64 i] w fun e w' => e = .returned (.int .i64 (min (max i 0) s.size)) ∧ w' = w := by
  go_enter Tryz.func81, Tryz.ntmps81
  go_wp2_with fail
  all_goals
    go_ret
    exact ⟨ret_int (by omega), rfl⟩
/-- The byte at a place, and whether there is one. -/
def byteV : Option UInt8 → Array Value
  | none => #[.int .u8 0, .bool false]
  | some c => #[.int .u8 (c.toNat : Nat), .bool true]
theorem byteV_none : byteV none = #[.int .u8 0, .bool false] := rfl
theorem byteV_some (c : UInt8) : byteV (some c) = #[.int .u8 (c.toNat : Nat), .bool true] := rfl
theorem byteV_head (o : Option UInt8) : byteV o = #[.int .u8 ((o.getD 0).toNat : Nat), .bool o.isSome] := by cases o <;> rfl
theorem text_at (s : ByteArray) (k : Nat) (h : k < s.size) : s.data.toList[k]? = some s[k] := by simp [ByteArray.getElem_eq_getElem_data]
theorem byte_any (b : Nat) (s : ByteArray) (k : Nat) (w : World) (hc : w.cell? ⟨b, 0, none⟩ = some (.string s)) :
    Calls Tryz.prog 48 #[.pointer (some ⟨b, 0, none⟩), .int .i64 (k : Nat)] w fun e w' => e = .returned (.tuple (byteV s.data.toList[k]?)) ∧ w' = w := by
  by_cases h : k < s.size
  · have HV : Hid (byteV s.data.toList[k]? = #[.int .u8 (s[k].toNat : Nat), .bool true]) := by unfold Hid; rw [text_at s k h]; rfl
    have h' : (k : Int) < (s.size : Int) := by omega
    rw [HV.out]
    clear HV
    go_enter Tryz.func48, Tryz.ntmps48
    go_wp2_with fail
    go_ret2
    exact ⟨rfl, rfl⟩
  · have HV : Hid (byteV s.data.toList[k]? = #[.int .u8 0, .bool false]) := by unfold Hid; rw [List.getElem?_eq_none (by simp; omega)]; rfl
    have h' : ¬ (k : Int) < (s.size : Int) := by omega
    rw [HV.out]
    clear HV
    go_enter Tryz.func48, Tryz.ntmps48
    go_wp2_with fail
    go_ret2
    exact ⟨rfl, rfl⟩
theorem extract_none (s : ByteArray) (a b : Nat) (h : b ≤ a) : s.extract a b = ⟨#[]⟩ := by
  apply ByteArray.ext
  rw [ByteArray.data_extract]
  exact Array.extract_empty_of_stop_le_start h
set_option maxHeartbeats 400000 in
/-- The bytes from one place to another. -/
theorem slice_any (b : Nat) (s : ByteArray) (i j : Nat) (w : World) (hc : w.cell? ⟨b, 0, none⟩ = some (.string s)) (hi : i ≤ s.size) (hj : j ≤ s.size) :
    Calls Tryz.prog 66 #[.pointer (some ⟨b, 0, none⟩), .int .i64 (i : Nat), .int .i64 (j : Nat)] w fun e w' => e = .returned (.string (s.extract i j)) ∧ w' = w := by
  have HA : Hid (min (max (i : Int) 0) (s.size : Int) = (i : Nat)) := by unfold Hid; omega
  have HD : Hid (min (max (j : Int) 0) (s.size : Int) = (j : Nat)) := by unfold Hid; omega
  have hi' : (i : Int) ≤ (s.size : Int) := by omega
  have hj' : (j : Int) ≤ (s.size : Int) := by omega
  by_cases h : j ≤ i
  all_goals
    go_enter Tryz.func66, Tryz.ntmps66
    go_wp2_with (first | (go_at_call 81; refine (within_any _ _ _ _ hc).mono ?_; rintro e w' ⟨rfl, rfl⟩; first | rw [HA.out] | rw [HD.out]))
    go_ret
    first | exact ⟨rfl, rfl⟩ | exact ⟨ret_str (extract_none _ _ _ h).symm, rfl⟩
set_option maxHeartbeats 400000 in
theorem prefix_any (s p : ByteArray) (w : World) :
    Calls Tryz.prog 78 #[.string s, .string p] w fun e w' => e = .returned (.bool (Lib.hasPrefix s.data.toList p.data.toList)) ∧ w' = w := by
  rw [← Lib.hasPrefix_raw]
  by_cases h : p.size ≤ s.size
  all_goals
    go_enter Tryz.func78, Tryz.ntmps78
    go_wp2_with fail
    go_ret
    exact ⟨ret_bool (by simp [h]), rfl⟩
theorem hasPrefix_any (s p : ByteArray) (w : World) :
    Calls Tryz.prog 62 #[.string s, .string p] w fun e w' => e = .returned (.bool (Lib.hasPrefix s.data.toList p.data.toList)) ∧ w' = w := by
  go_enter Tryz.func62, Tryz.ntmps62
  go_wp2_with fail
  refine (prefix_any _ _ _).mono ?_
  rintro e w' ⟨rfl, rfl⟩
  go_wp2_with fail
  go_ret
  exact ⟨rfl, rfl⟩
set_option maxHeartbeats 400000 in
/-- Does it stand there? -/
theorem has_any (b : Nat) (s t : ByteArray) (k : Nat) (w : World) (hc : w.cell? ⟨b, 0, none⟩ = some (.string s)) (ht : 0 < t.size) :
    Calls Tryz.prog 47 #[.pointer (some ⟨b, 0, none⟩), .int .i64 (k : Nat), .string t] w fun e w' => e = .returned (.bool (Lib.hasPrefix (s.data.toList.drop k) t.data.toList)) ∧ w' = w := by
  by_cases hk : k ≤ s.size
  · have hk' : (k : Int) ≤ (s.size : Int) := by omega
    have HP : Hid (Calls Tryz.prog 61 #[.pointer (some ⟨b, 0, none⟩), .int .i64 (k : Nat)] w fun e w' => e = .returned (.bool true) ∧ w' = w) := by
      have := isPlace_any b s k w hc (by omega)
      rw [decide_eq_true hk'] at this
      exact this
    go_enter Tryz.func47, Tryz.ntmps47
    go_wp2_with fail
    refine Calls.mono HP.out ?_
    rintro e w' ⟨rfl, hw⟩
    obtain rfl := hw.symm
    clear hw
    go_wp2_with fail
    refine (hasPrefix_any _ _ _).mono ?_
    rintro e w' ⟨rfl, rfl⟩
    go_wp2_with fail
    go_ret
    exact ⟨ret_bool (by rw [List.take_of_length_le (by simp)]), rfl⟩
  · have hk' : ¬ (k : Int) ≤ (s.size : Int) := by omega
    have HP : Hid (Calls Tryz.prog 61 #[.pointer (some ⟨b, 0, none⟩), .int .i64 (k : Nat)] w fun e w' => e = .returned (.bool false) ∧ w' = w) := by
      have := isPlace_any b s k w hc (by omega)
      rw [decide_eq_false hk'] at this
      exact this
    have HF : Hid (Lib.hasPrefix (s.data.toList.drop k) t.data.toList = false) := by
      unfold Hid
      rw [List.drop_eq_nil_of_le (by simp; omega)]
      obtain ⟨⟨l⟩⟩ := t
      cases l with
      | nil => exact absurd ht (by decide)
      | cons c l => rfl
    rw [HF.out]
    clear HF
    go_enter Tryz.func47, Tryz.ntmps47
    go_wp2_with fail
    refine Calls.mono HP.out ?_
    rintro e w' ⟨rfl, hw⟩
    obtain rfl := hw.symm
    clear hw
    go_wp2_with fail
    go_ret
    exact ⟨rfl, rfl⟩
theorem has_one (l : List UInt8) (c : UInt8) : Lib.hasPrefix l [c] = (l.head? == some c) := by
  cases l with
  | nil => rfl
  | cons d l =>
    show (c == d && ([] : List UInt8).isPrefixOf l) = ((some d : Option UInt8) == some c)
    rw [List.isPrefixOf_nil_left, Bool.and_true, Bool.eq_iff_iff]
    simp only [beq_iff_eq, Option.some.injEq]
    exact eq_comm
end Go.Proofs.YtlihkblllakhmaaGreatDoor
