/- The law of the names: longer names; the law whole. -/
import Derived.Test.YtlbdecohmjpgaaaDoorNames
namespace Go.Proofs.YtlbdecohmjpgaaaDoor
open Go.RowKit
attribute [local go_sem] Oper.semAt_some

theorem start_of {c : Int} (h1 : contB c = true) (h2 : c < 48 ∨ 57 < c) : startB c = true := by
  rw [start_eq, h1, show digitB c = false from decide_eq_false (by omega)]
  rfl
set_option maxRecDepth 100000 in
set_option maxHeartbeats 8000000 in
theorem names_long (s : ByteArray) (W : World) (ea : Nat → Addr) (hE : Env W ea) (hW : (ea 64).block ≤ W.heap.size) (h0 : 20 < s.size) (hs : s.size ≤ 40) :
    Calls Tryd.prog 7 #[.string s] W fun e w' => e = .returned (.bool true) ∧ Below W.heap.size W w' := by
  have HF : Hid _ := first_any W ea hE hW
  have HE : Hid (∀ w, Below W.heap.size W w → Env w ea) := fun w hb => hE.below hb
  have hn := nameB_long s h0
  have HN : Hid (∀ w, Calls Tryd.prog 17 #[.string s] w fun e w' => e = .returned (.bool false) ∧ w' = w) := fun w => by rw [← hn]; exact rname_any s w
  have HL1 : Hid (start8 s[0] = true → allCont s.data.toList = true → ∀ w, Below W.heap.size W w → Calls Tryd.prog 9 #[.string (srcN1 s)] w fun e w' => ∃ v ev, e = .returned (.tuple #[v, ev]) ∧ LexV w ea (.error ⟨0, 0⟩) v ev w' ∧ Below w.heap.size w w') := fun hst hc w hb => by
    have := lex_any (srcN1 s) w ea (hE.below hb) (Nat.le_trans hW hb.size) (srcN1_size s (by omega))
    rwa [lexN1 s (by omega) hst hc, hn] at this
  have HL2 : Hid (allCont s.data.toList = true → ∀ w, Below W.heap.size W w → Calls Tryd.prog 9 #[.string (srcN2 s)] w fun e w' => ∃ v ev, e = .returned (.tuple #[v, ev]) ∧ LexV w ea (.error ⟨0, 1⟩) v ev w' ∧ Below w.heap.size w w') := fun hc w hb => by
    have := lex_any (srcN2 s) w ea (hE.below hb) (Nat.le_trans hW hb.size) (srcN2_size s (by omega))
    rwa [lexN2 s (by omega) hc, hn] at this
  have hne : s.toList.isEmpty = false := nonempty_of s (by omega)
  have hd1 : decide ((40 : Int) < (s.size : Int)) = false := by simp; omega
  have hd2 : decide ((s.size : Int) ≤ 20) = false := by simp; omega
  have hd3 : (20 : Int) < (s.size : Int) := by omega
  clear hE hn
  go_enter Tryd.func7, Tryd.ntmps7
  go_wp2_with fail
  refine Calls.mono HF.out ?_
  rintro e w1 ⟨rfl, hb1⟩
  have HB1 : Hid (Below W.heap.size W w1) := hb1
  clear hb1 HF
  go_wp2_with fail
  refine Calls.mono (HN.out _) ?_
  rintro e w2 ⟨rfl, hw⟩
  obtain rfl := hw.symm
  clear hw
  go_wp2_with fail
  clear hne
  go_loop [2, 4] (fun v2 v4 => ∃ k : Nat, v2 = .bool false ∧ v4 = .int .i64 k ∧ k ≤ s.size ∧ Hid (∀ j (hj : j < s.size), j < k → contB ((s[j]).toNat : Int) = true) ∧ Hid (0 < k → ((s[0]).toNat : Int) < 48 ∨ 57 < ((s[0]).toNat : Int))) (fun _ v4 => s.size - (intOf v4).toNat)
  case atStart => exact ⟨0, rfl, rfl, Nat.zero_le _, fun _ _ h => absurd h (Nat.not_lt_zero _), fun h => absurd h (Nat.lt_irrefl _)⟩
  case round =>
    obtain ⟨k, rfl, rfl, hk, HA, HD⟩ := hrel
    by_cases hlt : k < s.size
    · cases hcb : contB ((s[k]).toNat : Int) with
      | false =>
        have HCB : Hid _ := hcb
        clear hcb HA HD
        go_wp2_with fail
        refine (letter_any _ _).mono ?_
        rintro e w2 ⟨rfl, hw⟩
        obtain rfl := hw.symm
        clear hw
        rw [HCB.out]
        go_wp2_with fail
        go_ret
        exact ⟨rfl, HB1.out⟩
      | true =>
        have HCB : Hid _ := hcb
        have HA1 : Hid (∀ j (hj : j < s.size), j < k + 1 → contB ((s[j]).toNat : Int) = true) := fun j hj hl => by
          by_cases e : j = k
          · subst e; exact hcb
          · exact HA.out j hj (by omega)
        clear hcb HA
        by_cases hk0 : k = 0
        · subst hk0
          clear HD
          by_cases h48 : ((s[0]).toNat : Int) < 48
          · have d3 : decide (48 ≤ ((s[0]).toNat : Int)) = false := decide_eq_false (by omega)
            have HD : Hid (((s[0]).toNat : Int) < 48) := h48
            go_wp2_with fail
            refine (letter_any _ _).mono ?_
            rintro e w2 ⟨rfl, hw⟩
            obtain rfl := hw.symm
            clear hw
            rw [HCB.out]
            go_wp2_with fail
            exact ⟨⟨1, rfl, by simp, by omega, HA1.out, fun _ => Or.inl HD.out⟩, by simp [intOf]; omega⟩
          · by_cases h57 : ((s[0]).toNat : Int) ≤ 57
            · have d3 : 48 ≤ ((s[0]).toNat : Int) := by omega
              clear HA1
              go_wp2_with fail
              refine (letter_any _ _).mono ?_
              rintro e w2 ⟨rfl, hw⟩
              obtain rfl := hw.symm
              clear hw
              rw [HCB.out]
              go_wp2_with fail
              go_ret
              exact ⟨rfl, HB1.out⟩
            · have d3 : 48 ≤ ((s[0]).toNat : Int) := by omega
              have d4 : decide (((s[0]).toNat : Int) ≤ 57) = false := decide_eq_false (by omega)
              have HD : Hid (57 < ((s[0]).toNat : Int)) := by unfold Hid; omega
              go_wp2_with fail
              refine (letter_any _ _).mono ?_
              rintro e w2 ⟨rfl, hw⟩
              obtain rfl := hw.symm
              clear hw
              rw [HCB.out]
              go_wp2_with fail
              exact ⟨⟨1, rfl, by simp, by omega, HA1.out, fun _ => Or.inr HD.out⟩, by simp [intOf]; omega⟩
        · have hk1 : ((k : Int) == 0) = false := by rw [beq_eq_false_iff_ne]; omega
          have HD1 : Hid (((s[0]).toNat : Int) < 48 ∨ 57 < ((s[0]).toNat : Int)) := HD.out (by omega)
          clear HD
          go_wp2_with fail
          refine (letter_any _ _).mono ?_
          rintro e w2 ⟨rfl, hw⟩
          obtain rfl := hw.symm
          clear hw
          rw [HCB.out]
          go_wp2_with fail
          exact ⟨⟨k + 1, rfl, by simp, by omega, HA1.out, fun _ => HD1.out⟩, by simp [intOf]; omega⟩
    · have hlt' : ¬ (k : Int) < (s.size : Int) := by omega
      have hc : allCont s.data.toList = true := allCont_of s (fun j hj => HA.out j hj (by omega))
      have hst : start8 s[0] = true := start_of (HA.out 0 (by omega) (by omega)) (HD.out (by omega))
      have H1 : Hid _ := HL1.out hst hc
      have H2 : Hid _ := HL2.out hc
      clear hlt HA HD hc hst HL1 HL2
      go_wp2_with fail
      refine Calls.mono (H1.out _ HB1.out) ?_
      rintro e w2 ⟨v2, ev2, rfl, ⟨rfl, q2, rfl, hx2⟩, hb2⟩
      have HB2 : Hid (Below W.heap.size W w2) := HB1.out.trans (Below.mono hb2 HB1.out.size)
      have HX2 : Hid (Cel w2 q2 92 #[.int .i64 0, errV (ea (gOf 0))]) := hx2
      clear hx2 hb2 H1
      go_wp2_with fail
      refine Calls.mono (H2.out _ HB2.out) ?_
      rintro e w3 ⟨v3, ev3, rfl, ⟨rfl, q3, rfl, hx3⟩, hb3⟩
      have HB3 : Hid (Below W.heap.size W w3) := HB2.out.trans (Below.mono hb3 HB2.out.size)
      have HX3 : Hid (Cel w3 q3 92 #[.int .i64 1, errV (ea (gOf 0))]) := hx3
      have HX23 : Hid (Cel w3 q2 92 #[.int .i64 0, errV (ea (gOf 0))]) := HX2.out.below hb3 HX2.out.lt
      clear hx3 hb3 H2 HB2 HX2 HB1
      go_wp2_with fail
      refine (placed_any 106 0 (by decide) _).mono ?_
      rintro e w5 ⟨f5, rfl, hf5, _, hb5⟩
      have HB5 : Hid (Below W.heap.size W w5) := HB3.out.trans (Below.mono hb5 HB3.out.size)
      have HX35 : Hid (Cel w5 q3 92 #[.int .i64 1, errV (ea (gOf 0))]) := HX3.out.below hb5 HX3.out.lt
      have HSA : Hid _ := same_any w5 ea (HE.out _ HB5.out) 5 (by omega) (ea (gOf 0)) rfl q2 0 (HX23.out.below hb5 HX23.out.lt) f5 hf5 106 rfl
      clear hf5 hb5 HX3 HX23 HB3
      go_wp2_with fail
      refine Calls.mono HSA.out ?_
      rintro e w6 ⟨rfl, hb6⟩
      have HB6 : Hid (Below W.heap.size W w6) := HB5.out.trans (Below.mono hb6 HB5.out.size)
      have HX36 : Hid (Cel w6 q3 92 #[.int .i64 1, errV (ea (gOf 0))]) := HX35.out.below hb6 HX35.out.lt
      clear hb6 HSA HB5 HX35
      go_wp2_with fail
      refine (placed_any 106 1 (by decide) _).mono ?_
      rintro e w7 ⟨f7, rfl, hf7, _, hb7⟩
      have HB7 : Hid (Below W.heap.size W w7) := HB6.out.trans (Below.mono hb7 HB6.out.size)
      have HSB : Hid _ := same_any w7 ea (HE.out _ HB7.out) 5 (by omega) (ea (gOf 0)) rfl q3 1 (HX36.out.below hb7 HX36.out.lt) f7 hf7 106 rfl
      clear hf7 hb7 HX36 HB6
      go_wp2_with fail
      refine Calls.mono HSB.out ?_
      rintro e w8 ⟨rfl, hb8⟩
      have HB8 : Hid (Below W.heap.size W w8) := HB7.out.trans (Below.mono hb8 HB7.out.size)
      clear hb8 HSB HB7
      go_wp2_with fail
      go_ret
      exact ⟨rfl, HB8.out⟩
/-- The law of the names. -/
theorem names_any (s : ByteArray) (W : World) (ea : Nat → Addr) (hE : Env W ea) (hW : (ea 64).block ≤ W.heap.size) :
    Calls Tryd.prog 7 #[.string s] W fun e w' => e = .returned (.bool true) ∧ Below W.heap.size W w' := by
  by_cases h40 : 40 < s.size
  · exact names_over s W ea hE hW h40
  · by_cases h20 : 20 < s.size
    · exact names_long s W ea hE hW h20 (by omega)
    · cases hn : nameB s.data.toList with
      | false => exact names_none s W ea hE hW (by omega) hn
      | true =>
        have h0 : 0 < s.size := by
          rcases Nat.eq_zero_or_pos s.size with h | h
          · rw [empty_of s h] at hn; cases hn
          · exact h
        have h := nameB_of s h0 (by omega)
        rw [hn] at h
        have h := Bool.and_eq_true_iff.1 h.symm
        exact names_good s W ea hE hW h0 (by omega) h.1 h.2 hn
end Go.Proofs.YtlbdecohmjpgaaaDoor
