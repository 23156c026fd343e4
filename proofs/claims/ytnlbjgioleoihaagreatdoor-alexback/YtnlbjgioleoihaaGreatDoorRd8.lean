/- A byte between double quotes. -/
import Derived.Test.YtnlbjgioleoihaaGreatDoorRd1
import Derived.Test.YtnlbjgioleoihaaGreatDoorRd3
namespace Go.Proofs.YtnlbjgioleoihaaGreatDoor
open Go.RowKit
attribute [local go_sem] Oper.semAt_some

theorem one_eq (s : ByteArray) (k : Nat) (h : k < s.size) : s.extract k (k + 1) = ⟨[s[k]].toArray⟩ := by
  rw [Lib.extract_eq, drop_cons s k h, show k + 1 - k = 1 by omega]
  rfl
theorem two_eq (s : ByteArray) (k : Nat) (h : k + 1 < s.size) : s.extract k (k + 2) = ⟨[s[k], s[k + 1]].toArray⟩ := by
  rw [Lib.extract_eq, drop_cons s k (by omega), drop_cons s (k + 1) h, show k + 2 - k = 2 by omega]
  rfl
theorem dByte_other (s : ByteArray) (k : Nat) (h : k < s.size) (hc : s[k] ≠ 92) : dByte (s.data.toList.drop k) = ([s[k]], 1) := by
  rw [drop_cons s k h]
  exact if_neg hc
theorem dByte_end (s : ByteArray) (k : Nat) (h : k < s.size) (hc : s[k] = 92) (h2 : ¬ k + 1 < s.size) : dByte (s.data.toList.drop k) = ([s[k]], 1) := by
  rw [drop_cons s k h, List.drop_eq_nil_of_le (by simp; omega)]
  show (if s[k] = 92 then (([92], 1) : List UInt8 × Nat) else ([s[k]], 1)) = _
  rw [if_pos hc, hc]
theorem dByte_two (s : ByteArray) (k : Nat) (h2 : k + 1 < s.size) (hc : s[k] = 92) : dByte (s.data.toList.drop k) = if [36, 34, 92].contains s[k + 1] = true then ([s[k + 1]], 2) else ([s[k], s[k + 1]], 2) := by
  rw [drop_cons s k (by omega), drop_cons s (k + 1) h2]
  show (if s[k] = 92 then (if s[k + 1] = 36 ∨ s[k + 1] = 34 ∨ s[k + 1] = 92 then (([s[k + 1]], 2) : List UInt8 × Nat) else ([92, s[k + 1]], 2)) else ([s[k]], 1)) = _
  rw [if_pos hc, hc]
  by_cases hq : s[k + 1] = 36 ∨ s[k + 1] = 34 ∨ s[k + 1] = 92
  · rw [if_pos hq, if_pos (by simpa using hq)]
  · rw [if_neg hq, if_neg (by simpa using hq)]
set_option maxRecDepth 100000 in
set_option maxHeartbeats 2000000 in
theorem deadByte_any {W : World} {b sb k : Nat} {s : ByteArray} (h : Rd W b sb s k) (hs : s.size < 1152921504606846976) (hk : k < s.size) :
    Calls Tryz.prog 68 #[.pointer (some ⟨b, 0, none⟩)] W fun e w' => e = .returned (str (dByte (s.data.toList.drop k)).1) ∧ Stp W b sb s (k + (dByte (s.data.toList.drop k)).2) w' := by
  have HS : Hid (Stp W b sb s k W) := Stp.refl h
  have c0 := h.c0
  have c1 := h.c1
  have f1 := h.f1
  have HH : Hid (Calls Tryz.prog 29 #[.pointer (some ⟨sb, 0, none⟩), .int .i64 (k : Nat), .string ⟨#[92]⟩] W fun e w' => e = .returned (.bool (s.data.toList[k]? == some 92)) ∧ w' = W) := hasb_any sb s 92 k W h.t0
  have hsb := h.ne
  have hnb : ¬ sb = b := hsb
  clear h hsb
  rw [text_at s k hk] at HH
  by_cases hc : s[k] = 92
  · have HSLE : Hid (∀ (w : World) (i j : Nat), w.cell? ⟨sb, 0, none⟩ = some (.string s) → i ≤ s.size → j ≤ s.size → Calls Tryz.prog 54 #[.pointer (some ⟨sb, 0, none⟩), .int .i64 (i : Nat), .int .i64 (j : Nat)] w fun e w' => e = .returned (.string (s.extract i j)) ∧ w' = w) := fun w i j hw hi hj => slice_any sb s i j w hw hi hj
    have HL : Hid (Calls Tryz.prog 40 #[.pointer (some ⟨sb, 0, none⟩)] W fun e w' => e = .returned (.int .i64 s.size) ∧ w' = W) := len_any sb s W HS.out.at_.t0
    have HH1 : Hid (Calls Tryz.prog 29 #[.pointer (some ⟨sb, 0, none⟩), .int .i64 (k : Nat), .string ⟨#[92]⟩] W fun e w' => e = .returned (.bool true) ∧ w' = W) := by
      have := HH.out
      rw [hc] at this
      exact this
    clear HH
    by_cases h2 : k + 1 < s.size
    · have HD : Hid _ := dByte_two s k h2 hc
      have hmin : min ((k : Int) + 2) (s.size : Int) = ((k : Int) + 2) := by omega
      have HB : Hid (∀ w, w.cell? ⟨sb, 0, none⟩ = some (.string s) → Calls Tryz.prog 22 #[.pointer (some ⟨sb, 0, none⟩), .int .i64 ((k : Int) + 1)] w fun e w' => e = .returned (.tuple #[.int .u8 (s[k + 1].toNat : Nat), .bool true]) ∧ w' = w) := fun w hw => by
        have := byte_any sb s (k + 1) w hw
        rw [text_at s (k + 1) h2] at this
        exact this
      have HI : Hid (∀ w, Calls Tryz.prog 31 #[.string ⟨#[36, 34, 92]⟩, .int .u8 (s[k + 1].toNat : Nat)] w fun e w' => e = .returned (.bool ([36, 34, 92].contains s[k + 1])) ∧ w' = w) := fun w => in_any [36, 34, 92] s[k + 1] w
      have HO : Hid (s.extract (k + 1) (k + 2) = ⟨[s[k + 1]].toArray⟩) := one_eq s (k + 1) h2
      have HT : Hid (s.extract k (k + 2) = ⟨[s[k], s[k + 1]].toArray⟩) := two_eq s k h2
      clear hc
      cases hin : [36, 34, 92].contains s[k + 1] with
      | true =>
        have HD2 : Hid (dByte (s.data.toList.drop k) = ([s[k + 1]], 2)) := by unfold Hid; rw [HD.out, if_pos hin]
        rw [HD2.out]
        rw [hin] at HI
        clear hin HD HD2 HT
        generalize s[k + 1] = c at *
        have HX : Hid (s.extract (k + 1) (k + 2) = ⟨[c].toArray⟩) := HO.out
        go_enter Tryz.func68, Tryz.ntmps68
        go_wp2_with fail
        refine Calls.mono HH1.out ?_
        rintro e w1 ⟨rfl, hw⟩
        obtain rfl := hw.symm
        clear hw
        go_wp2_with fail
        refine Calls.mono HL.out ?_
        rintro e w1 ⟨rfl, hw⟩
        obtain rfl := hw.symm
        clear hw
        go_wp2_with fail
        obtain ⟨W1, hW1⟩ : ∃ W1, W1 = W.setCell ⟨b, 1, none⟩ (.int .i64 ((k : Int) + 2)) := ⟨_, rfl⟩
        have HS1 : Hid (Stp W b sb s (k + 2) W1) := by rw [hW1]; exact set_step HS.out _ _ (by omega)
        rw [← hW1]
        clear hW1 c0 c1 f1
        have d0 := HS1.out.at_.c0
        have d1 : W1.cell? ⟨b, 1, none⟩ = some (.int .i64 ((k : Int) + 2)) := HS1.out.at_.c1
        have t0 := HS1.out.at_.t0
        have HSL : Hid (∀ m, Calls Tryz.prog 54 #[.pointer (some ⟨sb, 0, none⟩), .int .i64 ((k : Int) + 1), .int .i64 ((k : Int) + 2)] (W1.drewN m) fun e w' => e = .returned (.string (s.extract (k + 1) (k + 2))) ∧ w' = W1.drewN m) := fun m => HSLE.out (W1.drewN m) (k + 1) (k + 2) t0 (by omega) (by omega)
        refine Calls.mono (HB.out W1 t0) ?_
        rintro e w1 ⟨rfl, hw⟩
        obtain rfl := hw.symm
        clear hw
        go_wp2_with fail
        refine Calls.mono (HI.out W1) ?_
        rintro e w1 ⟨rfl, hw⟩
        obtain rfl := hw.symm
        clear hw
        go_wp2_with fail
        go_quiet (first | (go_at_call 54; exact Calls.quiet_of_same (HSL.out _)))
        go_wp2_with fail
        go_ret
        rw [HX.out]
        exact ⟨rfl, HS1.out.drewN _⟩
      | false =>
        have HD2 : Hid (dByte (s.data.toList.drop k) = ([s[k], s[k + 1]], 2)) := by unfold Hid; rw [HD.out, if_neg (by rw [hin]; simp)]
        rw [HD2.out]
        rw [hin] at HI
        clear hin HD HD2 HO
        have HX : Hid _ := HT.out
        generalize s[k + 1] = c at *
        generalize s[k] = c' at *
        go_enter Tryz.func68, Tryz.ntmps68
        go_wp2_with fail
        refine Calls.mono HH1.out ?_
        rintro e w1 ⟨rfl, hw⟩
        obtain rfl := hw.symm
        clear hw
        go_wp2_with fail
        refine Calls.mono HL.out ?_
        rintro e w1 ⟨rfl, hw⟩
        obtain rfl := hw.symm
        clear hw
        go_wp2_with fail
        obtain ⟨W1, hW1⟩ : ∃ W1, W1 = W.setCell ⟨b, 1, none⟩ (.int .i64 ((k : Int) + 2)) := ⟨_, rfl⟩
        have HS1 : Hid (Stp W b sb s (k + 2) W1) := by rw [hW1]; exact set_step HS.out _ _ (by omega)
        rw [← hW1]
        clear hW1 c0 c1 f1
        have d0 := HS1.out.at_.c0
        have d1 : W1.cell? ⟨b, 1, none⟩ = some (.int .i64 ((k : Int) + 2)) := HS1.out.at_.c1
        have t0 := HS1.out.at_.t0
        have HSL : Hid (∀ m, Calls Tryz.prog 54 #[.pointer (some ⟨sb, 0, none⟩), .int .i64 (k : Nat), .int .i64 ((k : Int) + 2)] (W1.drewN m) fun e w' => e = .returned (.string (s.extract k (k + 2))) ∧ w' = W1.drewN m) := fun m => HSLE.out (W1.drewN m) k (k + 2) t0 (by omega) (by omega)
        refine Calls.mono (HB.out W1 t0) ?_
        rintro e w1 ⟨rfl, hw⟩
        obtain rfl := hw.symm
        clear hw
        go_wp2_with fail
        refine Calls.mono (HI.out W1) ?_
        rintro e w1 ⟨rfl, hw⟩
        obtain rfl := hw.symm
        clear hw
        go_wp2_with fail
        go_quiet (first | (go_at_call 54; exact Calls.quiet_of_same (HSL.out _)))
        go_wp2_with fail
        go_ret
        rw [HX.out]
        exact ⟨rfl, HS1.out.drewN _⟩
    · have HD : Hid _ := dByte_end s k hk hc h2
      have hmin : min ((k : Int) + 2) (s.size : Int) = ((k : Int) + 1) := by omega
      have HX : Hid (s.extract k (k + 1) = ⟨[s[k]].toArray⟩) := one_eq s k hk
      have HB : Hid (∀ w, w.cell? ⟨sb, 0, none⟩ = some (.string s) → Calls Tryz.prog 22 #[.pointer (some ⟨sb, 0, none⟩), .int .i64 ((k : Int) + 1)] w fun e w' => e = .returned (.tuple #[.int .u8 0, .bool false]) ∧ w' = w) := fun w hw => by
        have := byte_any sb s (k + 1) w hw
        rw [List.getElem?_eq_none (by simp; omega)] at this
        exact this
      rw [HD.out]
      clear hc HD
      generalize s[k] = c' at *
      go_enter Tryz.func68, Tryz.ntmps68
      go_wp2_with fail
      refine Calls.mono HH1.out ?_
      rintro e w1 ⟨rfl, hw⟩
      obtain rfl := hw.symm
      clear hw
      go_wp2_with fail
      refine Calls.mono HL.out ?_
      rintro e w1 ⟨rfl, hw⟩
      obtain rfl := hw.symm
      clear hw
      go_wp2_with fail
      obtain ⟨W1, hW1⟩ : ∃ W1, W1 = W.setCell ⟨b, 1, none⟩ (.int .i64 ((k : Int) + 1)) := ⟨_, rfl⟩
      have HS1 : Hid (Stp W b sb s (k + 1) W1) := by rw [hW1]; exact set_step HS.out _ _ (by omega)
      rw [← hW1]
      clear hW1 c0 c1 f1
      have d0 := HS1.out.at_.c0
      have d1 : W1.cell? ⟨b, 1, none⟩ = some (.int .i64 ((k : Int) + 1)) := HS1.out.at_.c1
      have t0 := HS1.out.at_.t0
      have HSL : Hid (∀ m, Calls Tryz.prog 54 #[.pointer (some ⟨sb, 0, none⟩), .int .i64 (k : Nat), .int .i64 ((k : Int) + 1)] (W1.drewN m) fun e w' => e = .returned (.string (s.extract k (k + 1))) ∧ w' = W1.drewN m) := fun m => HSLE.out (W1.drewN m) k (k + 1) t0 (by omega) (by omega)
      refine Calls.mono (HB.out W1 t0) ?_
      rintro e w1 ⟨rfl, hw⟩
      obtain rfl := hw.symm
      clear hw
      go_wp2_with fail
      go_quiet (first | (go_at_call 54; exact Calls.quiet_of_same (HSL.out _)))
      go_wp2_with fail
      go_ret
      rw [HX.out]
      exact ⟨rfl, HS1.out.drewN _⟩
  · have HD : Hid _ := dByte_other s k hk hc
    have HX : Hid (s.extract k (k + 1) = ⟨[s[k]].toArray⟩) := one_eq s k hk
    have HH1 : Hid (Calls Tryz.prog 29 #[.pointer (some ⟨sb, 0, none⟩), .int .i64 (k : Nat), .string ⟨#[92]⟩] W fun e w' => e = .returned (.bool false) ∧ w' = W) := by
      have := HH.out
      rw [show (some s[k] == some (92 : UInt8)) = false by simpa using hc] at this
      exact this
    rw [HD.out]
    clear hc HD HH
    generalize s[k] = c' at *
    go_enter Tryz.func68, Tryz.ntmps68
    go_wp2_with fail
    refine Calls.mono HH1.out ?_
    rintro e w1 ⟨rfl, hw⟩
    obtain rfl := hw.symm
    clear hw
    go_wp2_with fail
    obtain ⟨W1, hW1⟩ : ∃ W1, W1 = W.setCell ⟨b, 1, none⟩ (.int .i64 ((k : Int) + 1)) := ⟨_, rfl⟩
    have HS1 : Hid (Stp W b sb s (k + 1) W1) := by rw [hW1]; exact set_step HS.out _ _ (by omega)
    rw [← hW1]
    clear hW1 c0 c1 f1
    have d0 := HS1.out.at_.c0
    have d1 : W1.cell? ⟨b, 1, none⟩ = some (.int .i64 ((k : Int) + 1)) := HS1.out.at_.c1
    have t0 := HS1.out.at_.t0
    have HSL : Hid (∀ m, Calls Tryz.prog 54 #[.pointer (some ⟨sb, 0, none⟩), .int .i64 (k : Nat), .int .i64 ((k : Int) + 1)] (W1.drewN m) fun e w' => e = .returned (.string (s.extract k (k + 1))) ∧ w' = W1.drewN m) := fun m => slice_any sb s k (k + 1) (W1.drewN m) t0 (by omega) (by omega)
    go_quiet (first | (go_at_call 54; exact Calls.quiet_of_same (HSL.out _)))
    go_wp2_with fail
    go_ret
    rw [HX.out]
    exact ⟨rfl, HS1.out.drewN _⟩
end Go.Proofs.YtnlbjgioleoihaaGreatDoor
