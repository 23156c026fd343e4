/- The law TextNumbers, walked: it answers true at every number and every text. -/
import Derived.Test.YtnapmbemoppfbaaDoorPlaces
import Derived.Test.YtnapmbemoppfbaaDoorNumPlain
import Derived.Test.YtnapmbemoppfbaaDoorShelf
import Derived.Lib.AppendIntMem
namespace Go.Proofs.YtnapmbemoppfbaaDoor
open Go.RowKit

/-- The library's table of powers lies in the world. -/
def Pow (w : World) : Prop := Lib.TabIs Tryd.prog w "internal/strconv.uint64pow10" .u64 Lib.pow10Tab
theorem gPow : Tryd.prog.globalNamed "internal/strconv.uint64pow10" = some 2 := by kernel_rfl
theorem Pow.stays {w w' : World} {B : Nat} (h : Pow w) (hb : Below B w w') (h2 : 2 < B) : Pow w' := var?_below hb gPow h2 h

set_option maxHeartbeats 400000 in
theorem number_any (n : Int) (w : World) (h0 : -9223372036854775808 ≤ n) (h1 : n ≤ 9223372036854775807) (ht : Pow w) :
    Calls Tryd.prog 22 #[.int .i64 n] w fun e w' => e = .returned (.string ⟨(Lib.itoa n).toArray⟩) ∧ Below w.heap.size w w' := by
  go_enter Tryd.func22, Tryd.ntmps22
  go_wp2_with (go_at_call 35; refine (Tryd.strconv_Itoa _ h0 h1 _ ht).mono ?_; rintro e w' ⟨rfl, k, os, rfl⟩)
  go_ret
  exact ⟨rfl, Lib.below_grow _ _ (Nat.le_refl _) _ _⟩

set_option maxHeartbeats 400000 in
theorem numbers_long (n : Int) (s : ByteArray) (w : World) (h : 100 < s.size) :
    Calls Tryd.prog 4 #[.int .i64 n, .string s] w fun e w' => e = .returned (.bool true) ∧ Below w.heap.size w w' := by
  go_enter Tryd.func4, Tryd.ntmps4
  go_wp2_with fail
  refine (first_any _).mono ?_; rintro e w' ⟨rfl, rfl⟩
  go_wp2_with fail
  go_ret
  exact ⟨rfl, (Below.refl _ _).alloc (Nat.le_refl _) _⟩

theorem parseRet_nat (n : Int) (h : 0 ≤ n) : parseRet (some n.toNat) = .tuple #[.int .i64 n, .bool true] := by
  show Value.tuple #[.int .i64 (n.toNat : Int), .bool true] = _
  rw [Int.toNat_of_nonneg h]
theorem parseRet_some (k : Nat) : parseRet (some k) = .tuple #[.int .i64 k, .bool true] := rfl
theorem parseRet_none : parseRet none = .tuple #[.int .i64 0, .bool false] := rfl

set_option maxHeartbeats 1000000 in
theorem numbers_short (n : Int) (s : ByteArray) (w : World) (h : s.size ≤ 100) (h0 : -9223372036854775808 ≤ n) (h1 : n ≤ 9223372036854775807) (ht : Pow w) (hw : 2 < w.heap.size) :
    Calls Tryd.prog 4 #[.int .i64 n, .string s] w fun e w' => e = .returned (.bool true) ∧ Below w.heap.size w w' := by
  have hp := parse_itoa n
  have HP : Hid _ := hp
  clear hp
  have hb0 : Below w.heap.size w (w.alloc (.cells #[.string ⟨#[97, 98, 10, 99, 100]⟩] 33)) := (Below.refl _ _).alloc (Nat.le_refl _) _
  have hz0 : (w.alloc (.cells #[.string ⟨#[97, 98, 10, 99, 100]⟩] 33)).heap.size = w.heap.size + 1 := by simp
  have ht0 := ht.stays hb0 hw
  go_enter Tryd.func4, Tryd.ntmps4
  go_wp2_with fail
  refine (first_any _).mono ?_; rintro e w' ⟨rfl, rfl⟩
  go_wp2_with fail
  refine (number_any _ _ h0 h1 ht0).mono ?_; rintro e w1 ⟨rfl, hb1⟩
  have hb1' : Below w.heap.size w w1 := hb0.trans (hb1.mono (by rw [hz0]; omega))
  have ht1 := ht.stays hb1' hw
  have hz1 := hb1'.size
  clear hb1 hb0 hz0 ht0
  go_wp2_with fail
  refine (parse_any _ _).mono ?_; rintro e w' ⟨rfl, rfl⟩
  rw [show (⟨(Lib.itoa n).toArray⟩ : ByteArray).data.toList = Lib.itoa n from rfl, HP.out]
  clear HP
  have tail : ∀ v : Option Nat, Hid (parseV s.data.toList = v) → (∀ k, v = some k → Hid ((⟨(Lib.itoa (k : Int)).toArray⟩ : ByteArray) = s) ∧ k ≤ 999999999) := by
    intro v hv k hk
    subst hk
    exact ⟨by show (⟨(Lib.itoa (k : Int)).toArray⟩ : ByteArray) = s; rw [itoa_parse _ _ hv], parseV_le _ _ hv⟩
  have TAIL : Hid _ := tail
  clear tail
  have hcase : (0 ≤ n ∧ n ≤ 999999999) ∨ n < 0 ∨ 999999999 < n := by omega
  rcases hcase with hn | hn | hn
  · rw [if_pos hn, parseRet_nat n hn.1]
    go_wp2_with fail
    refine (parse_any _ _).mono ?_; rintro e w' ⟨rfl, rfl⟩
    cases hv : parseV s.data.toList with
    | none =>
      clear hv TAIL
      rw [parseRet_none]
      go_wp2_with fail
      go_ret
      exact ⟨rfl, hb1'⟩
    | some k =>
      obtain ⟨hk, hkl⟩ := TAIL.out _ hv k rfl
      clear hv TAIL
      rw [parseRet_some]
      go_wp2_with fail
      refine (number_any _ _ (by omega) (by omega) ht1).mono ?_; rintro e w2 ⟨rfl, hb2⟩
      rw [hk.out]
      clear hk
      go_wp2_with fail
      go_ret
      exact ⟨by simp, hb1'.trans (hb2.mono hz1)⟩
  all_goals
    rw [if_neg (by omega), parseRet_none]
    go_wp2_with fail
    refine (parse_any _ _).mono ?_; rintro e w' ⟨rfl, rfl⟩
    cases hv : parseV s.data.toList with
    | none =>
      clear hv TAIL
      rw [parseRet_none]
      go_wp2_with fail
      go_ret
      exact ⟨rfl, hb1'⟩
    | some k =>
      obtain ⟨hk, hkl⟩ := TAIL.out _ hv k rfl
      clear hv TAIL
      rw [parseRet_some]
      go_wp2_with fail
      refine (number_any _ _ (by omega) (by omega) ht1).mono ?_; rintro e w2 ⟨rfl, hb2⟩
      rw [hk.out]
      clear hk
      go_wp2_with fail
      go_ret
      exact ⟨by simp, hb1'.trans (hb2.mono hz1)⟩
theorem numbers_any (n : Int) (s : ByteArray) (w : World) (h0 : -9223372036854775808 ≤ n) (h1 : n ≤ 9223372036854775807) (ht : Pow w) (hw : 2 < w.heap.size) :
    Calls Tryd.prog 4 #[.int .i64 n, .string s] w fun e w' => e = .returned (.bool true) ∧ Below w.heap.size w w' := by
  by_cases h : s.size ≤ 100
  · exact numbers_short n s w h h0 h1 ht hw
  · exact numbers_long n s w (by omega)
end Go.Proofs.YtnapmbemoppfbaaDoor
