/- What a source's calls answer at whatever place, in one form each. -/
import Derived.Test.YtnapmbemoppfbaaDoorRefNum
import Derived.Test.YtnapmbemoppfbaaDoorNames
import Derived.Test.YtnapmbemoppfbaaDoorNumbers
import Derived.LaidEql
import Derived.BigQuiet
namespace Go.Proofs.YtnapmbemoppfbaaDoor
open Go.RowKit

def inB (s : ByteArray) (i : Int) : Bool := decide (0 ≤ i ∧ i < s.size)
def byteAt (s : ByteArray) (i : Int) : Int := if h : 0 ≤ i ∧ i < s.size then ((s[i.toNat]'(by omega)).toNat : Int) else 0
theorem inB_t {s : ByteArray} {i : Int} (h : 0 ≤ i ∧ i < s.size) : inB s i = true := decide_eq_true h
theorem inB_f {s : ByteArray} {i : Int} (h : ¬ (0 ≤ i ∧ i < s.size)) : inB s i = false := decide_eq_false h
theorem byteAt_nat (s : ByteArray) (a : Nat) (h : a < s.size) : byteAt s (a : Int) = ((s[a]).toNat : Int) := by
  unfold byteAt
  rw [dif_pos ⟨by omega, by omega⟩]
  simp only [Int.toNat_natCast]
theorem byteAt_out (s : ByteArray) (i : Int) (h : ¬ (0 ≤ i ∧ i < s.size)) : byteAt s i = 0 := by unfold byteAt; rw [dif_neg h]
theorem byte_any (b : Nat) (s : ByteArray) (i : Int) (w : World) (hc : w.cell? ⟨b, 0, none⟩ = some (.string s)) :
    Calls Tryd.prog 10 #[.pointer (some ⟨b, 0, none⟩), .int .i64 i] w fun e w' => e = .returned (.tuple #[.int .u8 (byteAt s i), .bool (inB s i)]) ∧ w' = w := by
  by_cases h : 0 ≤ i ∧ i < s.size
  · obtain ⟨a, rfl⟩ := Int.eq_ofNat_of_zero_le h.1
    rw [byteAt_nat s a (by omega), inB_t h]
    exact byte_yes b s a w hc (by omega)
  · rw [byteAt_out s i h, inB_f h]
    exact byte_no b s i w hc h

def placeB (s : ByteArray) (i : Int) : Bool := decide (0 ≤ i ∧ i ≤ s.size)
/-- The line and the column of a place, as far as the first k bytes tell; 0 of no such place. -/
def lineTo (s : ByteArray) (i : Int) (k : Nat) : Nat := if placeB s i then lineOf (s.data.toList.take (min k i.toNat)) else 0
def colTo (s : ByteArray) (i : Int) (k : Nat) : Nat := if placeB s i then colOf (s.data.toList.take (min k i.toNat)) else 0
theorem place_any (b : Nat) (s : ByteArray) (i : Int) (w : World) (hc : w.cell? ⟨b, 0, none⟩ = some (.string s)) (hs : s.size < 4611686018427387904) :
    Calls Tryd.prog 13 #[.pointer (some ⟨b, 0, none⟩), .int .i64 i] w fun e w' => e = .returned (.tuple #[.int .i64 (lineTo s i s.size), .int .i64 (colTo s i s.size)]) ∧ w' = w := by
  unfold lineTo colTo
  by_cases h : 0 ≤ i ∧ i ≤ s.size
  · rw [show placeB s i = true from decide_eq_true h]
    obtain ⟨a, rfl⟩ := Int.eq_ofNat_of_zero_le h.1
    simp only [if_true, Int.toNat_natCast]
    rw [show min s.size a = a by omega]
    exact place_yes b s a w hc (by omega) hs
  · rw [show placeB s i = false from decide_eq_false h]
    exact place_no b s i w hc h

def hasB (s : ByteArray) (i : Int) (t : ByteArray) : Bool := placeB s i && Lib.hasPrefix (s.data.toList.drop i.toNat) t.data.toList
theorem has_any (b : Nat) (s t : ByteArray) (i : Int) (w : World) (hc : w.cell? ⟨b, 0, none⟩ = some (.string s)) :
    Calls Tryd.prog 17 #[.pointer (some ⟨b, 0, none⟩), .int .i64 i, .string t] w fun e w' => e = .returned (.bool (hasB s i t)) ∧ w' = w := by
  unfold hasB
  by_cases h : 0 ≤ i ∧ i ≤ s.size
  · rw [show placeB s i = true from decide_eq_true h]
    obtain ⟨a, rfl⟩ := Int.eq_ofNat_of_zero_le h.1
    simp only [Bool.true_and, Int.toNat_natCast]
    exact has_yes b s t a w hc (by omega)
  · rw [show placeB s i = false from decide_eq_false h, Bool.false_and]
    exact has_no b s t i w hc h
theorem hasB_out (s t : ByteArray) (i : Int) (h : ¬ (0 ≤ i ∧ i ≤ s.size)) : hasB s i t = false := by
  unfold hasB; rw [show placeB s i = false from decide_eq_false h]; rfl
theorem hasB_long (s t : ByteArray) (a : Nat) (h : s.size - a < t.size) : hasB s a t = false := by
  unfold hasB
  rw [show Lib.hasPrefix (s.data.toList.drop (a : Int).toNat) t.data.toList = false from ?_]
  · simp
  · rw [Int.toNat_natCast, ← Bool.not_eq_true]
    intro hp
    have hl := (List.isPrefixOf_iff_prefix.1 hp).length_le
    rw [List.length_drop] at hl
    have h1 : s.data.toList.length = s.size := by simp
    have h2 : t.data.toList.length = t.size := by simp
    omega
theorem hasB_at (s t : ByteArray) (a : Nat) (h : a ≤ s.size) : hasB s a t = ((s.extract a (a + t.size)).toList == t.toList) := by
  unfold hasB
  rw [show placeB s a = true from decide_eq_true ⟨by omega, by omega⟩, Bool.true_and, Int.toNat_natCast, Lib.extract_toList, Lib.toList_data, show a + t.size - a = t.data.toList.length by simp, Bool.eq_iff_iff]
  show List.isPrefixOf _ _ = true ↔ _
  rw [List.isPrefixOf_iff_prefix, List.prefix_iff_eq_take]
  constructor
  · intro e; rw [← e]; simp
  · intro e; exact (by simpa using e : _ = _).symm

set_option maxHeartbeats 400000 in
theorem new_long (s : ByteArray) (v : Value) (w : World) (hs : 8192 < s.size) (hv : w.cell? ⟨0, 0, none⟩ = some v) (hi : ∃ a, v = .iface 74 (.pointer (some a))) :
    Calls Tryd.prog 9 #[.string s] w fun e w' => e = .returned (.tuple #[.pointer none, v]) ∧ ∃ n, w' = w.drewN n := by
  obtain ⟨a, rfl⟩ := hi
  go_enter Tryd.func9, Tryd.ntmps9
  go_wp2_with fail
  go_quiet (fail)
  go_wp2_with fail
  go_ret2
  exact ⟨rfl, _, rfl⟩
end Go.Proofs.YtnapmbemoppfbaaDoor
