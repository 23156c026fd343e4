/- One byte of a plain part. -/
import Derived.Test.YtlihkblllakhmaaGreatDoorRd5
namespace Go.Proofs.YtlihkblllakhmaaGreatDoor
open Go.RowKit
attribute [local go_sem] Oper.semAt_some

theorem pByte_one {c : UInt8} (t : List UInt8) (h : c ≠ 92) : pByte (c :: t) = (c, 1) := by simp [pByte, h]
theorem pByte_two (d : UInt8) (t : List UInt8) : pByte (92 :: d :: t) = (escC d, 2) := rfl
theorem pByte_end : pByte [92] = (92, 1) := rfl
set_option maxRecDepth 100000 in
set_option maxHeartbeats 2000000 in
theorem plainByte_any {W : World} {b sb k : Nat} {s : ByteArray} (h : Rd W b sb s k) (hs : s.size < 1099511627776) (hk : k < s.size) :
    Calls Tryz.prog 106 #[.pointer (some ⟨b, 0, none⟩)] W fun e w' => e = .returned (.int .u8 ((pByte (s.data.toList.drop k)).1.toNat : Nat)) ∧ Stp W b sb s (k + (pByte (s.data.toList.drop k)).2) w' := by
  have HT : Hid (Calls Tryz.prog 80 #[.pointer (some ⟨b, 0, none⟩)] W fun e w' => e = .returned (.tuple #[.int .u8 (s[k].toNat : Nat), .bool true]) ∧ Stp W b sb s (k + 1) w') := by
    have := take_any h (by omega)
    rw [text_at s k hk, byteV_some] at this
    exact this
  have HEN : Hid (∀ w, Stp W b sb s (k + 1) w → Calls Tryz.prog 20 #[.pointer (some ⟨b, 0, none⟩)] w fun e w' => e = .returned (.bool (decide (s.size ≤ k + 1))) ∧ ∃ m, w' = w.drewN m) := fun w hw => ended_any hw.at_
  have HT2 : Hid (∀ w, Stp W b sb s (k + 1) w → Calls Tryz.prog 80 #[.pointer (some ⟨b, 0, none⟩)] w fun e w' => e = .returned (.tuple (byteV s.data.toList[k + 1]?)) ∧ Stp w b sb s (k + 1 + 1) w') := fun w hw => take_any hw.at_ (by omega)
  have HDC : Hid _ := drop_cons s k hk
  rw [HDC.out]
  clear h
  generalize s[k] = c at HT HDC ⊢
  by_cases h92 : c = 92
  · subst h92
    by_cases h2 : k + 1 < s.size
    · have HD2 : Hid _ := drop_cons s (k + 1) h2
      rw [HD2.out, pByte_two]
      rw [text_at s (k + 1) h2, byteV_some] at HT2
      rw [decide_eq_false (by omega)] at HEN
      clear HDC HD2
      generalize s[k + 1] = d at HT2 ⊢
      have HR : Hid (escC d = if d = 110 then 10 else if d = 116 then 9 else d) := rfl
      by_cases h110 : d = 110
      · subst h110
        rw [show escC 110 = 10 from rfl]
        clear HR
        go_enter Tryz.func106, Tryz.ntmps106
        go_wp2_with fail
        refine Calls.mono HT.out ?_
        rintro e w1 ⟨rfl, hS1⟩
        have HS1 : Hid (Stp W b sb s (k + 1) w1) := hS1
        clear hS1 HT
        go_wp2_with fail
        refine Calls.mono (HEN.out _ HS1.out) ?_
        rintro e w2 ⟨rfl, m2, hw2⟩
        have HS2 : Hid (Stp W b sb s (k + 1) w2) := by rw [hw2]; exact HS1.out.drewN m2
        clear hw2 HEN HS1
        go_wp2_with fail
        refine Calls.mono (HT2.out _ HS2.out) ?_
        rintro e w3 ⟨rfl, hS3⟩
        have HS3 : Hid (Stp W b sb s (k + 1 + 1) w3) := HS2.out.trans hS3
        clear hS3 HT2 HS2
        go_wp2_with fail
        go_ret
        exact ⟨rfl, HS3.out⟩
      · have n110 : ((d.toNat : Int) == 110) = false := byte_ne d 110 h110
        rw [if_neg h110] at HR
        clear h110
        by_cases h116 : d = 116
        · subst h116
          rw [show escC 116 = 9 from rfl]
          clear HR
          go_enter Tryz.func106, Tryz.ntmps106
          go_wp2_with fail
          refine Calls.mono HT.out ?_
          rintro e w1 ⟨rfl, hS1⟩
          have HS1 : Hid (Stp W b sb s (k + 1) w1) := hS1
          clear hS1 HT
          go_wp2_with fail
          refine Calls.mono (HEN.out _ HS1.out) ?_
          rintro e w2 ⟨rfl, m2, hw2⟩
          have HS2 : Hid (Stp W b sb s (k + 1) w2) := by rw [hw2]; exact HS1.out.drewN m2
          clear hw2 HEN HS1
          go_wp2_with fail
          refine Calls.mono (HT2.out _ HS2.out) ?_
          rintro e w3 ⟨rfl, hS3⟩
          have HS3 : Hid (Stp W b sb s (k + 1 + 1) w3) := HS2.out.trans hS3
          clear hS3 HT2 HS2
          go_wp2_with fail
          go_ret
          exact ⟨rfl, HS3.out⟩
        · have n116 : ((d.toNat : Int) == 116) = false := byte_ne d 116 h116
          rw [if_neg h116] at HR
          rw [HR.out]
          clear h116 HR
          go_enter Tryz.func106, Tryz.ntmps106
          go_wp2_with fail
          refine Calls.mono HT.out ?_
          rintro e w1 ⟨rfl, hS1⟩
          have HS1 : Hid (Stp W b sb s (k + 1) w1) := hS1
          clear hS1 HT
          go_wp2_with fail
          refine Calls.mono (HEN.out _ HS1.out) ?_
          rintro e w2 ⟨rfl, m2, hw2⟩
          have HS2 : Hid (Stp W b sb s (k + 1) w2) := by rw [hw2]; exact HS1.out.drewN m2
          clear hw2 HEN HS1
          go_wp2_with fail
          refine Calls.mono (HT2.out _ HS2.out) ?_
          rintro e w3 ⟨rfl, hS3⟩
          have HS3 : Hid (Stp W b sb s (k + 1 + 1) w3) := HS2.out.trans hS3
          clear hS3 HT2 HS2
          go_wp2_with fail
          go_ret
          exact ⟨rfl, HS3.out⟩
    · rw [drop_none s (k + 1) h2, pByte_end]
      rw [decide_eq_true (by omega)] at HEN
      clear HDC HT2
      go_enter Tryz.func106, Tryz.ntmps106
      go_wp2_with fail
      refine Calls.mono HT.out ?_
      rintro e w1 ⟨rfl, hS1⟩
      have HS1 : Hid (Stp W b sb s (k + 1) w1) := hS1
      clear hS1 HT
      go_wp2_with fail
      refine Calls.mono (HEN.out _ HS1.out) ?_
      rintro e w2 ⟨rfl, m2, hw2⟩
      have HS2 : Hid (Stp W b sb s (k + 1) w2) := by rw [hw2]; exact HS1.out.drewN m2
      clear hw2 HEN HS1
      go_wp2_with fail
      go_ret
      exact ⟨rfl, HS2.out⟩
  · rw [pByte_one _ h92]
    have n92 : ((c.toNat : Int) == 92) = false := byte_ne c 92 h92
    have n92' : ((c.toNat : Int) != 92) = true := by rw [bne, n92]; rfl
    clear HDC h92 HEN HT2
    go_enter Tryz.func106, Tryz.ntmps106
    go_wp2_with fail
    refine Calls.mono HT.out ?_
    rintro e w1 ⟨rfl, hS1⟩
    have HS1 : Hid (Stp W b sb s (k + 1) w1) := hS1
    clear hS1 HT
    go_wp2_with fail
    go_ret
    exact ⟨rfl, HS1.out⟩
end Go.Proofs.YtlihkblllakhmaaGreatDoor
