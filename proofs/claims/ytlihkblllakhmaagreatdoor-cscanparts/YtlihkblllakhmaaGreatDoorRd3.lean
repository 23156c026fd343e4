/- Behind what shuts a brace, a bracket. -/
import Derived.Test.YtlihkblllakhmaaGreatDoorRd2
namespace Go.Proofs.YtlihkblllakhmaaGreatDoor
open Go.RowKit
attribute [local go_sem] Oper.semAt_some

theorem passB_cons (q : Nat) (c : UInt8) (t : List UInt8) : passB q (c :: t) = if c = 92 then passB q t.tail
    else if c = 123 then passB (q + 1) t
    else if c = 125 then (if q = 0 then some t else passB (q - 1) t)
    else passB q t := by
  cases t with
  | nil =>
    rw [passB, List.tail_nil]
    by_cases h1 : c = 92
    · subst h1; rfl
    · by_cases h2 : c = 123
      · subst h2; rfl
      · by_cases h3 : c = 125
        · subst h3
          by_cases h4 : q = 0
          · subst h4; rfl
          · simp [h4, passB]
        · simp [h1, h2, h3, passB]
  | cons d t => rw [passB, List.tail_cons]
theorem passB_nil (q : Nat) : passB q [] = none := by cases q <;> rfl
theorem tail_drop (s : ByteArray) (k : Nat) : (s.data.toList.drop k).tail = s.data.toList.drop (k + 1) := by rw [List.tail_drop]
set_option maxRecDepth 100000 in
set_option maxHeartbeats 4000000 in
theorem passBraces_any {W : World} {b sb k : Nat} {s : ByteArray} (h : Rd W b sb s k) (hs : s.size < 1099511627776) (hk : k < s.size) (hc : s[k] = 123) :
    Calls Tryz.prog 64 #[.pointer (some ⟨b, 0, none⟩)] W fun e w' => e = .returned (.bool (passB 0 (s.data.toList.drop (k + 1))).isSome) ∧ ∃ j, Stp W b sb s j w' ∧ k < j ∧ j ≤ s.size + 2 ∧ Lands s j (passB 0 (s.data.toList.drop (k + 1))) := by
  have HR0 : Hid (Rd W b sb s k) := h
  have HK : Hid (s.data.toList[k]? = some 123) := by unfold Hid; rw [text_at s k hk, hc]
  clear h hc
  obtain ⟨R, HR⟩ : ∃ R, Hid (passB 0 (s.data.toList.drop (k + 1)) = R) := ⟨_, rfl⟩
  rw [HR.out]
  go_enter Tryz.func64, Tryz.ntmps64
  go_wp2_with fail
  go_loopw [2, 3] (fun v2 v3 wr => ∃ op p : Nat, v2 = .bool false ∧ v3 = .int .i64 (op : Nat) ∧ k ≤ p ∧ p ≤ s.size + 1 ∧ op ≤ p ∧ Hid (op = 0 → p = k) ∧ Hid (op ≠ 0 → k < p ∧ passB (op - 1) (s.data.toList.drop p) = R) ∧ Hid (Stp W b sb s p wr)) (fun _ _ wr => s.size + 2 - posOf wr b)
  case atStart => exact ⟨0, k, rfl, rfl, Nat.le_refl _, by omega, Nat.zero_le _, fun _ => rfl, fun e => absurd rfl e, Stp.refl HR0.out⟩
  case round =>
    obtain ⟨op, p, rfl, rfl, hkp, hp, hop, HZ, HE, HS⟩ := hrel
    have HP : Hid (posOf wr b = p) := HS.out.at_.pos
    have HT : Hid (Calls Tryz.prog 80 #[.pointer (some ⟨b, 0, none⟩)] wr fun e w' => e = .returned (.tuple (byteV s.data.toList[p]?)) ∧ Stp wr b sb s (p + 1) w') := take_any HS.out.at_ (by omega)
    cases op with
    | zero =>
      obtain rfl := HZ.out rfl
      rw [HK.out, byteV_some] at HT
      clear HZ HE HR0 HK
      go_wp2_with fail
      refine Calls.mono HT.out ?_
      rintro e w1 ⟨rfl, hS1⟩
      have HS1 : Hid (Stp W b sb s (p + 1) w1) := HS.out.trans hS1
      clear hS1
      go_wp2_with fail
      refine ⟨⟨1, p + 1, rfl, rfl, by omega, by omega, by omega, fun e => absurd e (by omega), fun _ => ⟨by omega, HR.out⟩, HS1.out⟩, ?_⟩
      rw [HS1.out.at_.pos, HP.out]
      omega
    | succ q =>
      have hkp2 : k < p := (HE.out (by omega)).1
      have HE' : Hid (passB q (s.data.toList.drop p) = R) := (HE.out (by omega)).2
      clear HZ HE HR0 HK HR
      by_cases hlt : p < s.size
      · rw [text_at s p hlt, byteV_some] at HT
        rw [drop_cons s p hlt, passB_cons, tail_drop] at HE'
        generalize s[p] = c at HT HE'
        by_cases h92 : c = 92
        · subst h92
          rw [if_pos rfl] at HE'
          go_wp2_with fail
          refine Calls.mono HT.out ?_
          rintro e w1 ⟨rfl, hS1⟩
          have HS1 : Hid (Stp W b sb s (p + 1) w1) := HS.out.trans hS1
          clear hS1
          have c1 : w1.cell? ⟨b, 1, none⟩ = some (.int .i64 ((p : Int) + 1)) := HS1.out.at_.c1
          have f1 := HS1.out.at_.f1
          have hq1 : (((q + 1 : Nat) : Int) == 0) = false := by rw [beq_eq_false_iff_ne]; omega
          have hq2 : (((q : Nat) : Int) + 1 == 0) = false := by rw [beq_eq_false_iff_ne]; omega
          go_wp2_with fail
          have HS2 := set_step HS1.out ((p : Int) + 1 + 1) (p + 2) (by omega)
          refine ⟨⟨q + 1, p + 2, rfl, by simp, by omega, by omega, by omega, fun e => absurd e (by omega), fun _ => ⟨by omega, HE'.out⟩, HS2⟩, ?_⟩
          rw [HS2.at_.pos, HP.out]
          omega
        rw [if_neg h92] at HE'
        have n92 : ((c.toNat : Int) == 92) = false := byte_ne c 92 h92
        clear h92
        by_cases h123 : c = 123
        · subst h123
          rw [if_pos rfl] at HE'
          have hq2 : (((q : Nat) : Int) + 1 + 1 == 0) = false := by rw [beq_eq_false_iff_ne]; omega
          go_wp2_with fail
          refine Calls.mono HT.out ?_
          rintro e w1 ⟨rfl, hS1⟩
          have HS1 : Hid (Stp W b sb s (p + 1) w1) := HS.out.trans hS1
          clear hS1
          go_wp2_with fail
          refine ⟨⟨q + 2, p + 1, rfl, by simp; omega, by omega, by omega, by omega, fun e => absurd e (by omega), fun _ => ⟨by omega, HE'.out⟩, HS1.out⟩, ?_⟩
          rw [HS1.out.at_.pos, HP.out]
          omega
        rw [if_neg h123] at HE'
        have n123 : ((c.toNat : Int) == 123) = false := byte_ne c 123 h123
        clear h123
        by_cases h125 : c = 125
        · subst h125
          rw [if_pos rfl] at HE'
          cases q with
          | zero =>
            have HEQ : Hid (R = some (s.data.toList.drop (p + 1))) := by
              have := HE'.out
              rw [if_pos rfl] at this
              exact this.symm
            clear HE'
            go_wp2_with fail
            refine Calls.mono HT.out ?_
            rintro e w1 ⟨rfl, hS1⟩
            have HS1 : Hid (Stp W b sb s (p + 1) w1) := HS.out.trans hS1
            clear hS1
            go_wp2_with fail
            go_ret
            rw [HEQ.out]
            exact ⟨rfl, p + 1, HS1.out, by omega, by omega, Lands.some s _ hlt⟩
          | succ r =>
            have HEQ : Hid (passB r (s.data.toList.drop (p + 1)) = R) := by
              have := HE'.out
              rw [if_neg (by omega)] at this
              exact this
            have hq2 : (((r + 1 : Nat) : Int) + 1 - 1 == 0) = false := by rw [beq_eq_false_iff_ne]; omega
            have hq3 : (((r : Nat) : Int) + 1 == 0) = false := by rw [beq_eq_false_iff_ne]; omega
            clear HE'
            go_wp2_with fail
            refine Calls.mono HT.out ?_
            rintro e w1 ⟨rfl, hS1⟩
            have HS1 : Hid (Stp W b sb s (p + 1) w1) := HS.out.trans hS1
            clear hS1
            go_wp2_with fail
            refine ⟨⟨r + 1, p + 1, rfl, by simp, by omega, by omega, by omega, fun e => absurd e (by omega), fun _ => ⟨by omega, HEQ.out⟩, HS1.out⟩, ?_⟩
            rw [HS1.out.at_.pos, HP.out]
            omega
        rw [if_neg h125] at HE'
        have n125 : ((c.toNat : Int) == 125) = false := byte_ne c 125 h125
        have hq2 : (((q : Nat) : Int) + 1 == 0) = false := by rw [beq_eq_false_iff_ne]; omega
        clear h125
        go_wp2_with fail
        refine Calls.mono HT.out ?_
        rintro e w1 ⟨rfl, hS1⟩
        have HS1 : Hid (Stp W b sb s (p + 1) w1) := HS.out.trans hS1
        clear hS1
        go_wp2_with fail
        refine ⟨⟨q + 1, p + 1, rfl, by simp, by omega, by omega, by omega, fun e => absurd e (by omega), fun _ => ⟨by omega, HE'.out⟩, HS1.out⟩, ?_⟩
        rw [HS1.out.at_.pos, HP.out]
        omega
      · have HEQ : Hid (R = none) := by unfold Hid; rw [← HE'.out, drop_none s p hlt, passB_nil]
        rw [at_none s p hlt, byteV_none] at HT
        clear HE'
        go_wp2_with fail
        refine Calls.mono HT.out ?_
        rintro e w1 ⟨rfl, hS1⟩
        have HS1 : Hid (Stp W b sb s (p + 1) w1) := HS.out.trans hS1
        clear hS1
        go_wp2_with fail
        go_ret
        rw [HEQ.out]
        exact ⟨rfl, p + 1, HS1.out, by omega, by omega, Lands.none s _⟩
end Go.Proofs.YtlihkblllakhmaaGreatDoor
