/- A text between quotes, written. -/
import Derived.Test.YtaildeglikhkaaaGreatDoorQByte
import Derived.Test.YtaildeglikhkaaaGreatDoorBuild
namespace Go.Proofs.YtaildeglikhkaaaGreatDoor
open Go.RowKit
attribute [local go_sem] Oper.semAt_some

abbrev hexD : ByteArray := ⟨#[48, 49, 50, 51, 52, 53, 54, 55, 56, 57, 97, 98, 99, 100, 101, 102]⟩
/-- The digit of a value. -/
def hexC (v : Nat) : UInt8 := hexD.data.toList.getD v 0
/-- A byte, as it stands between quotes. -/
def quoteB (c : UInt8) : List UInt8 := if escB ((c.toNat : Nat) : Int) then [92, hexC (c.toNat / 16), hexC (c.toNat % 16)] else [c]
theorem quoteB_length (c : UInt8) : (quoteB c).length ≤ 3 := by unfold quoteB; split <;> simp
def bodyQ (l : List UInt8) : List UInt8 := l.flatMap quoteB
theorem bodyQ_length (l : List UInt8) : (bodyQ l).length ≤ 3 * l.length := by
  induction l with
  | nil => simp [bodyQ]
  | cons x l ih =>
    have := quoteB_length x
    simp only [bodyQ, List.flatMap_cons, List.length_append, List.length_cons] at ih ⊢
    omega
theorem bodyQ_snoc (l : List UInt8) (x : UInt8) : bodyQ (l ++ [x]) = bodyQ l ++ quoteB x := by simp [bodyQ]
def quoteL (l : List UInt8) : List UInt8 := [34] ++ bodyQ l ++ [34]
theorem hex_hi (c : UInt8) : c.toNat / 16 < 16 := by have := c.toNat_lt; omega
theorem hex_at (v : Nat) (h : v < 16) : hexD[v]'h = hexC v := by
  have : ∀ i : Fin 16, hexD[i.val]'i.isLt = hexC i.val := by decide +kernel
  exact this ⟨v, h⟩
theorem low_fin : ∀ c : Fin 256, bits .and .u8 (c.val : Int) 15 = ((c.val % 16 : Nat) : Int) := by decide +kernel
theorem low_bits (c : UInt8) : bits .and .u8 ((c.toNat : Nat) : Int) 15 = ((c.toNat % 16 : Nat) : Int) := low_fin ⟨c.toNat, c.toNat_lt⟩
theorem take_snoc' {α : Type} {l : List α} {k : Nat} {x : α} (h : l[k]? = some x) : l.take (k + 1) = l.take k ++ [x] := by
  rw [List.take_add_one, h]; rfl
set_option maxHeartbeats 2000000 in
theorem quote_any (s : ByteArray) (hs : s.size < 8796093022208) (w : World) :
    Calls Tryz.prog 12 #[.string s] w fun e w' => e = .returned (str (quoteL s.data.toList)) ∧ Below w.heap.size w w' := by
  have HN : Hid (Bld (w.alloc (.cells #[.pointer none, .slice none 0 0] 65)) w.heap.size w.heap.size []) := ⟨Nat.le_refl _, _, _, .inl rfl, Cel.new w 65 _, World.ownsRow_nil _ _ _ _⟩
  have HW0 : Hid (Below w.heap.size w (w.alloc (.cells #[.pointer none, .slice none 0 0] 65))) := (Below.refl _ w).alloc (Nat.le_refl _) _
  go_enter Tryz.func12, Tryz.ntmps12
  go_wp2_with (go_at_call 32; refine (writeByte_bld w.heap.size _ _ 34 _ HN.out (by simp) HW0.out.size).mono ?_; rintro e w1 ⟨rfl, hB1, hk1⟩)
  have hw1 := HW0.out.trans hk1.1
  go_loopw [4, 8] (fun _ v8 wr => ∃ k : Nat, v8 = .int .i64 k ∧ k ≤ s.size ∧ Bld wr w.heap.size w.heap.size ([34] ++ bodyQ (s.data.toList.take k)) ∧ Below w.heap.size w wr) (fun _ v8 _ => s.size - (intOf v8).toNat)
  case atStart => exact ⟨0, rfl, by omega, hB1, hw1⟩
  case round =>
    obtain ⟨k, rfl, hk, hB, hw⟩ := hrel
    by_cases hlt : k < s.size
    · have HTS : Hid (s.data.toList.take (k + 1) = s.data.toList.take k ++ [s[k]]) := take_snoc' (text_at s k hlt)
      have hel : ([34] ++ bodyQ (s.data.toList.take k)).length ≤ 1 + 3 * k := by
        have h1 := bodyQ_length (s.data.toList.take k)
        have h2 : (s.data.toList.take k).length ≤ k := by simp; omega
        simp only [List.length_append, List.length_cons, List.length_nil]
        omega
      have hwz := hw.size
      obtain ⟨c, hc⟩ : ∃ c, s[k] = c := ⟨_, rfl⟩
      rw [hc] at HTS
      cases hq : escB ((c.toNat : Nat) : Int) with
      | false =>
        have HQ : Hid (quoteB c = [c]) := by unfold Hid quoteB; rw [hq]; rfl
        have HE : Hid (∀ w, Calls Tryz.prog 33 #[.int .u8 ((c.toNat : Nat) : Int)] w fun e w' => e = .returned (.bool false) ∧ w' = w) := fun w => by have := escaped_any ((c.toNat : Nat) : Int) w; rw [hq] at this; exact this
        clear hq
        go_wp2_with (first | (go_at_call 33; refine (HE.out _).mono ?_; rintro e w2 ⟨rfl, hw2⟩; obtain rfl := hw2.symm) | (go_at_call 32; refine (writeByte_bld w.heap.size _ _ _ _ hB (by omega) hwz).mono ?_; rintro e w2 ⟨rfl, hB2, hk2⟩))
        go_roundw
        case rel => exact ⟨k + 1, by simp, hlt, by rw [HTS.out, bodyQ_snoc, HQ.out, ← List.append_assoc]; exact hB2, hw.trans hk2.1⟩
        case measure => simp [intOf]; omega
      | true =>
        have HQ : Hid (quoteB c = [92, hexC (c.toNat / 16), hexC (c.toNat % 16)]) := by unfold Hid quoteB; rw [hq]; rfl
        have HE : Hid (∀ w, Calls Tryz.prog 33 #[.int .u8 ((c.toNat : Nat) : Int)] w fun e w' => e = .returned (.bool true) ∧ w' = w) := fun w => by have := escaped_any ((c.toNat : Nat) : Int) w; rw [hq] at this; exact this
        clear hq
        go_wp2_with (go_at_call 33; refine (HE.out _).mono ?_; rintro e w2 ⟨rfl, hw2⟩; obtain rfl := hw2.symm)
        have hc256 : c.toNat < 256 := c.toNat_lt
        refine (writeByte_bld w.heap.size _ _ 92 _ hB (by omega) hwz).mono ?_
        rintro e w2 ⟨rfl, hB2, hk2⟩
        have hw2 := hw.trans hk2.1
        go_wp2_with fail
        rw [hex_at (c.toNat / 16) (hex_hi c)]
        have hA := low_bits c
        refine (writeByte_bld w.heap.size _ _ (hexC (c.toNat / 16)) _ hB2 (by simp only [List.length_append, List.length_cons, List.length_nil] at hel ⊢; omega) hw2.size).mono ?_
        rintro e w3 ⟨rfl, hB3, hk3⟩
        have hw3 := hw2.trans hk3.1
        clear hB2 hk2
        go_wp2_with fail
        rw [hex_at (c.toNat % 16) (Nat.mod_lt _ (by decide))]
        refine (writeByte_bld w.heap.size _ _ (hexC (c.toNat % 16)) _ hB3 (by simp only [List.length_append, List.length_cons, List.length_nil] at hel ⊢; omega) hw3.size).mono ?_
        rintro e w4 ⟨rfl, hB4, hk4⟩
        have hw4 := hw3.trans hk4.1
        clear hB3 hk3
        go_wp2_with fail
        go_roundw
        case rel => exact ⟨k + 1, by simp, hlt, by rw [HTS.out, bodyQ_snoc, HQ.out]; simpa using hB4, hw4⟩
        case measure => simp [intOf]; omega
    · have hks : k = s.size := by omega
      have htk : s.data.toList.take k = s.data.toList := by rw [hks]; exact List.take_of_length_le (by simp)
      rw [htk] at hB
      have hel : ([34] ++ bodyQ s.data.toList).length ≤ 1 + 3 * s.size := by
        have h1 := bodyQ_length s.data.toList
        have h2 : s.data.toList.length = s.size := by simp
        simp only [List.length_append, List.length_cons, List.length_nil]
        omega
      go_wp2_with (first | (go_at_call 32; refine (writeByte_bld w.heap.size _ _ 34 _ hB (by omega) hw.size).mono ?_; rintro e w2 ⟨rfl, hB2, hk2⟩; have hw2 := hw.trans hk2.1) | (go_at_call 34; refine (string_bld w.heap.size _ _ _ hB2 hw2.size).mono ?_; rintro e w3 ⟨rfl, hb3, _⟩))
      go_ret
      exact ⟨rfl, hw2.trans hb3⟩
end Go.Proofs.YtaildeglikhkaaaGreatDoor
