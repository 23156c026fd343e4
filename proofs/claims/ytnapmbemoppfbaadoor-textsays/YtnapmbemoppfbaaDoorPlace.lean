/- What strings.Count and strings.LastIndex answer at a newline, and what Place and Lines answer. -/
import Derived.Test.YtnapmbemoppfbaaDoorLeaf
import Derived.Test.YtnapmbemoppfbaaDoorPlain
import Derived.Lib.Bytealg
namespace Go.Proofs.YtnapmbemoppfbaaDoor
open Go.RowKit

theorem ret_int2 {k : IntKind} {a b c d : Int} (h : a = b) (g : c = d) : Ending.returned (.tuple #[.int k a, .int k c]) = .returned (.tuple #[.int k b, .int k d]) := by rw [h, g]

set_option maxHeartbeats 400000 in
theorem count_any (s : ByteArray) (w : World) :
    Calls Tryd.prog 36 #[.string s, .string ⟨#[10]⟩] w fun e w' => e = .returned (.int .i64 (newlines s.data.toList)) ∧ w' = w := by
  go_enter Tryd.func36, Tryd.ntmps36
  go_wp2
  rw [run_callFunc_extern Tryd.func42 (by kernel_rfl) (by kernel_rfl) (by kernel_rfl) (e := Extern.BytealgCount.count) (by kernel_rfl), Lib.run_countString]
  simp only [Result.andThen]
  rw [Oper.upon_value]
  go_wp2
  go_ret
  exact ⟨rfl, rfl⟩

set_option maxHeartbeats 400000 in
theorem lastByte_any (s : ByteArray) (w : World) (hs : s.size < 4611686018427387904) :
    Calls Tryd.prog 37 #[.string s, .int .u8 10] w fun e w' => e = .returned (.int .i64 ((s.size : Int) - colOf s.data.toList)) ∧ w' = w := by
  go_enter Tryd.func37, Tryd.ntmps37
  go_wp2
  go_loop [5] (fun vi => ∃ k : Nat, k ≤ s.size ∧ vi = .int .i64 ((k : Int) - 1) ∧ Hid (∀ b ∈ s.data.toList.drop k, b ≠ 10)) (fun vi => (intOf vi + 1).toNat)
  case atStart => exact ⟨s.size, Nat.le_refl _, by first | rfl | go_num | (congr 1; omega), by intro b hb; rw [List.drop_of_length_le (by simp)] at hb; exact absurd hb (List.not_mem_nil)⟩
  case round =>
    obtain ⟨k, hk, rfl, hh⟩ := hrel
    go_wp2
    · have hc : (((s[k - 1]).toNat : Int) == 10) = true := by assumption
      have e1 := colOf_tail s.data.toList k hh.out
      have e2 := take_snoc s (k - 1) (by omega)
      rw [show k - 1 + 1 = k by omega] at e2
      have hb : s[k - 1] = 10 := (u8_eq _ _).2 (by simpa using hc)
      rw [e2, colOf_snoc, if_pos hb] at e1
      go_ret
      refine ⟨ret_int ?_, rfl⟩
      rw [e1]
      simp
      omega
    · have hc : (((s[k - 1]).toNat : Int) == 10) = false := by assumption
      have hb : s[k - 1] ≠ 10 := fun h => by rw [h] at hc; simp at hc
      refine ⟨⟨k - 1, by omega, by congr 1; omega, ?_⟩, by simp [intOf]; omega⟩
      intro b hm
      rw [drop_cons s (k - 1) (by omega), show k - 1 + 1 = k by omega] at hm
      rcases List.mem_cons.1 hm with rfl | hm
      · exact hb
      · exact hh.out b hm
    · have k0 : k = 0 := by omega
      subst k0
      have e1 := colOf_tail s.data.toList 0 hh.out
      go_ret
      refine ⟨ret_int ?_, rfl⟩
      rw [e1]
      simp [colOf]
      omega

set_option maxHeartbeats 400000 in
theorem last_any (s : ByteArray) (w : World) (hs : s.size < 4611686018427387904) :
    Calls Tryd.prog 29 #[.string s, .string ⟨#[10]⟩] w fun e w' => e = .returned (.int .i64 ((s.size : Int) - colOf s.data.toList)) ∧ w' = w := by
  go_enter Tryd.func29, Tryd.ntmps29
  go_wp2_with (go_at_call 37; refine (lastByte_any _ _ hs).mono ?_; rintro e w' ⟨rfl, rfl⟩)
  go_ret
  exact ⟨rfl, rfl⟩

theorem countLines_any (s : ByteArray) (w : World) (hs : s.size < 4611686018427387904) :
    Calls Tryd.prog 28 #[.string s] w fun e w' => e = .returned (.int .i64 (lineOf s.data.toList)) ∧ w' = w := by
  have hl : newlines s.data.toList ≤ s.size := newlines_le _
  go_enter Tryd.func28, Tryd.ntmps28
  go_wp2_with (go_at_call 36; refine (count_any _ _).mono ?_; rintro e w' ⟨rfl, rfl⟩)
  go_ret
  exact ⟨ret_int (by simp [lineOf]), rfl⟩

theorem lines_any (b : Nat) (s : ByteArray) (w : World) (hc : w.cell? ⟨b, 0, none⟩ = some (.string s)) (hs : s.size < 4611686018427387904) :
    Calls Tryd.prog 18 #[.pointer (some ⟨b, 0, none⟩)] w fun e w' => e = .returned (.int .i64 (lineOf s.data.toList)) ∧ w' = w := by
  go_enter Tryd.func18, Tryd.ntmps18
  go_wp2_with (go_at_call 28; refine (countLines_any _ _ hs).mono ?_; rintro e w' ⟨rfl, rfl⟩)
  go_ret
  exact ⟨rfl, rfl⟩

set_option maxHeartbeats 400000 in
theorem place_yes (b : Nat) (s : ByteArray) (k : Nat) (w : World) (hc : w.cell? ⟨b, 0, none⟩ = some (.string s)) (hk : k ≤ s.size) (hs : s.size < 4611686018427387904) :
    Calls Tryd.prog 13 #[.pointer (some ⟨b, 0, none⟩), .int .i64 k] w fun e w' => e = .returned (.tuple #[.int .i64 (lineOf (s.data.toList.take k)), .int .i64 (colOf (s.data.toList.take k))]) ∧ w' = w := by
  have ex : (s.extract 0 k).data.toList = s.data.toList.take k := by rw [Lib.extract_data]; simp
  have ez : (s.extract 0 k).size = k := by rw [ByteArray.size_extract]; omega
  have EX : Hid _ := ex
  have EZ : Hid _ := ez
  have hcl : 1 ≤ colOf (s.data.toList.take k) ∧ colOf (s.data.toList.take k) ≤ k + 1 := by
    have h1 := colOf_le (s.data.toList.take k)
    have h2 : (s.data.toList.take k).length ≤ k := List.length_take_le _ _
    omega
  have hz : (s.extract 0 k).size < 4611686018427387904 := by omega
  clear ex ez
  go_enter Tryd.func13, Tryd.ntmps13
  go_wp2_with (first | (go_at_call 27; refine (isPlace_yes _ _ _ _ hc (by omega) (by omega)).mono ?_; rintro e w' ⟨rfl, rfl⟩) | (go_at_call 28; refine (countLines_any _ _ hz).mono ?_; rintro e w' ⟨rfl, rfl⟩; rw [EX.out]) | (go_at_call 29; refine (last_any _ _ hz).mono ?_; rintro e w' ⟨rfl, rfl⟩; rw [EX.out, EZ.out]))
  go_ret2
  exact ⟨ret_int2 rfl (by omega), rfl⟩

theorem place_no (b : Nat) (s : ByteArray) (i : Int) (w : World) (hc : w.cell? ⟨b, 0, none⟩ = some (.string s)) (hk : ¬ (0 ≤ i ∧ i ≤ s.size)) :
    Calls Tryd.prog 13 #[.pointer (some ⟨b, 0, none⟩), .int .i64 i] w fun e w' => e = .returned (.tuple #[.int .i64 0, .int .i64 0]) ∧ w' = w := by
  have HK : Hid _ := hk
  clear hk
  go_enter Tryd.func13, Tryd.ntmps13
  go_wp2_with (go_at_call 27; refine (isPlace_no _ _ _ _ hc HK.out).mono ?_; rintro e w' ⟨rfl, rfl⟩)
  go_ret2
  exact ⟨rfl, rfl⟩
end Go.Proofs.YtnapmbemoppfbaaDoor
