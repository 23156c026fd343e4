/- Behind what shuts a bracket. -/
import Derived.Test.YtlihkblllakhmaaGreatDoorRd3
namespace Go.Proofs.YtlihkblllakhmaaGreatDoor
open Go.RowKit
attribute [local go_sem] Oper.semAt_some

theorem passK_nil (n m : Nat) : passK n m [] = none := by cases n <;> cases m <;> rfl
theorem passK_cons (n m : Nat) (c : UInt8) (t : List UInt8) : passK n m (c :: t) = if c = 92 then passK n m t.tail
    else if c = 123 then passK n (m + 1) t
    else if c = 125 then passK n (m - 1) t
    else if c = 91 then passK (if m = 0 then n + 1 else n) m t
    else if c = 93 then (if m = 0 then (if n = 0 then some t else passK (n - 1) 0 t) else passK n m t)
    else passK n m t := by
  cases t with
  | nil =>
    have e : passK n m [c] = if c = 93 ∧ m = 0 ∧ n = 0 then some [] else none := by rw [passK]
    rw [e, List.tail_nil]
    simp only [passK_nil]
    by_cases h5 : c = 93
    · subst h5
      by_cases h6 : m = 0 <;> by_cases h7 : n = 0 <;> simp [h6, h7]
    · simp [h5]
  | cons d t => rw [passK, List.tail_cons]
/-- A brace within brackets is passed over as a brace alone. -/
theorem passK_brace (n : Nat) : ∀ (f : Nat) (l : List UInt8) (m : Nat), l.length ≤ f → passK n (m + 1) l = (passB m l).bind (passK n 0) := by
  intro f
  induction f with
  | zero =>
    intro l m h
    obtain rfl := List.eq_nil_of_length_eq_zero (Nat.le_zero.1 h)
    rw [passK_nil, passB_nil]
    rfl
  | succ f ih =>
    intro l m h
    cases l with
    | nil => rw [passK_nil, passB_nil]; rfl
    | cons c t =>
      rw [List.length_cons] at h
      rw [passK_cons, passB_cons]
      by_cases h1 : c = 92
      · rw [if_pos h1, if_pos h1]
        exact ih _ m (by rw [List.length_tail]; omega)
      · rw [if_neg h1, if_neg h1]
        by_cases h2 : c = 123
        · rw [if_pos h2, if_pos h2]
          exact ih _ (m + 1) (by omega)
        · rw [if_neg h2, if_neg h2]
          by_cases h3 : c = 125
          · rw [if_pos h3, if_pos h3]
            cases m with
            | zero => rfl
            | succ m => exact ih _ m (by omega)
          · have hm : ¬ (m + 1 = 0) := by omega
            have := ih t m (by omega)
            rw [if_neg h3, if_neg h3, if_neg hm, if_neg hm]
            split
            · exact this
            · split
              · exact this
              · exact this
theorem passK_open (n : Nat) (t : List UInt8) : passK n 0 (123 :: t) = (passB 0 t).bind (passK n 0) := by
  rw [passK_cons, if_neg (by decide), if_pos rfl]
  exact passK_brace n t.length t 0 (Nat.le_refl _)
set_option maxRecDepth 100000 in
set_option maxHeartbeats 4000000 in
theorem passBrackets_any {W : World} {b sb k : Nat} {s : ByteArray} (h : Rd W b sb s k) (hs : s.size < 1099511627776) (hk : k < s.size) (hc : s[k] = 91) :
    Calls Tryz.prog 102 #[.pointer (some ⟨b, 0, none⟩)] W fun e w' => e = .returned (.bool (passK 0 0 (s.data.toList.drop (k + 1))).isSome) ∧ ∃ j, Stp W b sb s j w' ∧ k < j ∧ j ≤ s.size + 2 ∧ Lands s j (passK 0 0 (s.data.toList.drop (k + 1))) := by
  have HR0 : Hid (Rd W b sb s k) := h
  have HK : Hid (s.data.toList[k]? = some 91) := by unfold Hid; rw [text_at s k hk, hc]
  clear h hc
  obtain ⟨R, HR⟩ : ∃ R, Hid (passK 0 0 (s.data.toList.drop (k + 1)) = R) := ⟨_, rfl⟩
  rw [HR.out]
  go_enter Tryz.func102, Tryz.ntmps102
  go_wp2_with fail
  go_loopw [2, 3] (fun v2 v3 wr => ∃ op p : Nat, v2 = .bool false ∧ v3 = .int .i64 (op : Nat) ∧ k ≤ p ∧ p ≤ s.size + 1 ∧ op ≤ p ∧ Hid (op = 0 → p = k) ∧ Hid (op ≠ 0 → k < p ∧ passK (op - 1) 0 (s.data.toList.drop p) = R) ∧ Hid (Stp W b sb s p wr)) (fun _ _ wr => s.size + 2 - posOf wr b)
  case atStart => exact ⟨0, k, rfl, rfl, Nat.le_refl _, by omega, Nat.zero_le _, fun _ => rfl, fun e => absurd rfl e, Stp.refl HR0.out⟩
  case round =>
    obtain ⟨op, p, rfl, rfl, hkp, hp, hop, HZ, HE, HS⟩ := hrel
    have HP : Hid (posOf wr b = p) := HS.out.at_.pos
    have c0 := HS.out.at_.c0
    have c1 := HS.out.at_.c1
    have HH : Hid (∀ m, Calls Tryz.prog 47 #[.pointer (some ⟨sb, 0, none⟩), .int .i64 (p : Nat), .string ⟨#[123]⟩] (wr.drewN m) fun e w' => e = .returned (.bool (s.data.toList[p]? == some 123)) ∧ w' = wr.drewN m) := fun m => hasb_any sb s 123 p (wr.drewN m) HS.out.at_.t0
    have HT : Hid (∀ w, Stp W b sb s p w → Calls Tryz.prog 80 #[.pointer (some ⟨b, 0, none⟩)] w fun e w' => e = .returned (.tuple (byteV s.data.toList[p]?)) ∧ Stp w b sb s (p + 1) w') := fun w hw => take_any hw.at_ (by omega)
    cases op with
    | zero =>
      obtain rfl := HZ.out rfl
      rw [HK.out, byteV_some] at HT
      rw [HK.out, show (some (91 : UInt8) == some 123) = false by decide] at HH
      clear HZ HE HR0 HK
      go_wp2_with fail
      go_quiet (first | (go_at_call 47; exact Calls.quiet_of_same (HH.out _)))
      obtain ⟨W1, hW1⟩ : ∃ W1, W1 = wr.drewN nq := ⟨_, rfl⟩
      have HSa : Hid (Stp W b sb s p W1) := by rw [hW1]; exact HS.out.drewN nq
      rw [← hW1]
      clear hW1 c0 c1 HH HS
      go_wp2_with fail
      refine Calls.mono (HT.out _ HSa.out) ?_
      rintro e w1 ⟨rfl, hS1⟩
      have HS1 : Hid (Stp W b sb s (p + 1) w1) := HSa.out.trans hS1
      clear hS1
      go_wp2_with fail
      refine ⟨⟨1, p + 1, rfl, rfl, by omega, by omega, by omega, fun e => absurd e (by omega), fun _ => ⟨by omega, HR.out⟩, HS1.out⟩, ?_⟩
      rw [HS1.out.at_.pos, HP.out]
      omega
    | succ q =>
      have hkp2 : k < p := (HE.out (by omega)).1
      have HE' : Hid (passK q 0 (s.data.toList.drop p) = R) := (HE.out (by omega)).2
      clear HZ HE HR0 HK HR
      by_cases hlt : p < s.size
      · by_cases h123 : s[p] = 123
        · rw [text_at s p hlt, h123, beq_self_eq_true] at HH
          have HPB : Hid (∀ w, Stp W b sb s p w → Calls Tryz.prog 64 #[.pointer (some ⟨b, 0, none⟩)] w fun e w' => e = .returned (.bool (passB 0 (s.data.toList.drop (p + 1))).isSome) ∧ ∃ j, Stp w b sb s j w' ∧ p < j ∧ j ≤ s.size + 2 ∧ Lands s j (passB 0 (s.data.toList.drop (p + 1)))) := fun w hw => passBraces_any hw.at_ hs hlt h123
          rw [drop_cons s p hlt, h123, passK_open] at HE'
          clear HT h123
          generalize passB 0 (s.data.toList.drop (p + 1)) = N at HPB HE'
          cases N with
          | none =>
            have HEQ : Hid (R = none) := HE'.out.symm
            go_wp2_with fail
            go_quiet (first | (go_at_call 47; exact Calls.quiet_of_same (HH.out _)))
            obtain ⟨W1, hW1⟩ : ∃ W1, W1 = wr.drewN nq := ⟨_, rfl⟩
            have HSa : Hid (Stp W b sb s p W1) := by rw [hW1]; exact HS.out.drewN nq
            rw [← hW1]
            clear hW1 c0 c1 HH HS HE'
            go_wp2_with fail
            refine Calls.mono (HPB.out _ HSa.out) ?_
            rintro e w2 ⟨rfl, jj, hS2, hj1, hj2, hL⟩
            have HS2 : Hid (Stp W b sb s jj w2) := HSa.out.trans hS2
            clear hS2 hL
            go_wp2_with fail
            go_ret
            rw [HEQ.out]
            exact ⟨rfl, jj, HS2.out, by omega, by omega, Lands.none s _⟩
          | some t =>
            go_wp2_with fail
            go_quiet (first | (go_at_call 47; exact Calls.quiet_of_same (HH.out _)))
            obtain ⟨W1, hW1⟩ : ∃ W1, W1 = wr.drewN nq := ⟨_, rfl⟩
            have HSa : Hid (Stp W b sb s p W1) := by rw [hW1]; exact HS.out.drewN nq
            rw [← hW1]
            clear hW1 c0 c1 HH HS
            go_wp2_with fail
            refine Calls.mono (HPB.out _ HSa.out) ?_
            rintro e w2 ⟨rfl, jj, hS2, hj1, hj2, hL⟩
            have HS2 : Hid (Stp W b sb s jj w2) := HSa.out.trans hS2
            obtain ⟨rfl, hj3⟩ := hL t rfl
            have HEQ : Hid (passK q 0 (s.data.toList.drop jj) = R) := HE'.out
            clear hS2 hL HE'
            go_wp2_with fail
            refine ⟨⟨q + 1, jj, rfl, rfl, by omega, by omega, by omega, fun e => absurd e (by omega), fun _ => ⟨by omega, HEQ.out⟩, HS2.out⟩, ?_⟩
            rw [HS2.out.at_.pos, HP.out]
            omega
        rw [text_at s p hlt, byteV_some] at HT
        rw [text_at s p hlt, show (some s[p] == some (123 : UInt8)) = false by simpa using h123] at HH
        rw [drop_cons s p hlt, passK_cons, tail_drop] at HE'
        generalize s[p] = c at HT HE' h123
        have key : ∀ {w : World}, Hid (Stp W b sb s p w) → Hid (Calls Tryz.prog 80 #[.pointer (some ⟨b, 0, none⟩)] w fun e w' => e = .returned (.tuple #[.int .u8 (c.toNat : Nat), .bool true]) ∧ Stp W b sb s (p + 1) w') := fun {w} hw => (HT.out w hw.out).mono fun e w' he => ⟨he.1, hw.out.trans he.2⟩
        have HKY : Hid (∀ w, Stp W b sb s p w → Calls Tryz.prog 80 #[.pointer (some ⟨b, 0, none⟩)] w fun e w' => e = .returned (.tuple #[.int .u8 (c.toNat : Nat), .bool true]) ∧ Stp W b sb s (p + 1) w') := fun w hw => (key (w := w) hw).out
        clear HT key
        by_cases h92 : c = 92
        · subst h92
          rw [if_pos rfl] at HE'
          have hq1 : (((q + 1 : Nat) : Int) == 0) = false := by rw [beq_eq_false_iff_ne]; omega
          have hq2 : (((q : Nat) : Int) + 1 == 0) = false := by rw [beq_eq_false_iff_ne]; omega
          clear h123
          go_wp2_with fail
          go_quiet (first | (go_at_call 47; exact Calls.quiet_of_same (HH.out _)))
          obtain ⟨W1, hW1⟩ : ∃ W1, W1 = wr.drewN nq := ⟨_, rfl⟩
          have HSa : Hid (Stp W b sb s p W1) := by rw [hW1]; exact HS.out.drewN nq
          rw [← hW1]
          clear hW1 c0 c1 HH HS
          go_wp2_with fail
          refine Calls.mono (HKY.out _ HSa.out) ?_
          rintro e w1 ⟨rfl, hS1⟩
          have HS1 : Hid (Stp W b sb s (p + 1) w1) := hS1
          clear hS1
          have c1 : w1.cell? ⟨b, 1, none⟩ = some (.int .i64 ((p : Int) + 1)) := HS1.out.at_.c1
          have f1 := HS1.out.at_.f1
          go_wp2_with fail
          have HS2 := set_step HS1.out ((p : Int) + 1 + 1) (p + 2) (by omega)
          refine ⟨⟨q + 1, p + 2, rfl, by simp, by omega, by omega, by omega, fun e => absurd e (by omega), fun _ => ⟨by omega, HE'.out⟩, HS2⟩, ?_⟩
          rw [HS2.at_.pos, HP.out]
          omega
        rw [if_neg h92, if_neg h123] at HE'
        have n92 : ((c.toNat : Int) == 92) = false := byte_ne c 92 h92
        clear h92 h123
        by_cases h91 : c = 91
        · subst h91
          have HEQ : Hid (passK (q + 1) 0 (s.data.toList.drop (p + 1)) = R) := by
            have := HE'.out
            rw [if_neg (by decide), if_pos rfl, if_pos rfl] at this
            exact this
          have hq2 : (((q : Nat) : Int) + 1 + 1 == 0) = false := by rw [beq_eq_false_iff_ne]; omega
          clear HE'
          go_wp2_with fail
          go_quiet (first | (go_at_call 47; exact Calls.quiet_of_same (HH.out _)))
          obtain ⟨W1, hW1⟩ : ∃ W1, W1 = wr.drewN nq := ⟨_, rfl⟩
          have HSa : Hid (Stp W b sb s p W1) := by rw [hW1]; exact HS.out.drewN nq
          rw [← hW1]
          clear hW1 c0 c1 HH HS
          go_wp2_with fail
          refine Calls.mono (HKY.out _ HSa.out) ?_
          rintro e w1 ⟨rfl, hS1⟩
          have HS1 : Hid (Stp W b sb s (p + 1) w1) := hS1
          clear hS1
          go_wp2_with fail
          refine ⟨⟨q + 2, p + 1, rfl, by simp; omega, by omega, by omega, by omega, fun e => absurd e (by omega), fun _ => ⟨by omega, HEQ.out⟩, HS1.out⟩, ?_⟩
          rw [HS1.out.at_.pos, HP.out]
          omega
        have n91 : ((c.toNat : Int) == 91) = false := byte_ne c 91 h91
        by_cases h93 : c = 93
        · subst h93
          cases q with
          | zero =>
            have HEQ : Hid (R = some (s.data.toList.drop (p + 1))) := by
              have := HE'.out
              rw [if_neg (by decide), if_neg (by decide), if_pos rfl, if_pos rfl, if_pos rfl] at this
              exact this.symm
            clear HE' h91
            go_wp2_with fail
            go_quiet (first | (go_at_call 47; exact Calls.quiet_of_same (HH.out _)))
            obtain ⟨W1, hW1⟩ : ∃ W1, W1 = wr.drewN nq := ⟨_, rfl⟩
            have HSa : Hid (Stp W b sb s p W1) := by rw [hW1]; exact HS.out.drewN nq
            rw [← hW1]
            clear hW1 c0 c1 HH HS
            go_wp2_with fail
            refine Calls.mono (HKY.out _ HSa.out) ?_
            rintro e w1 ⟨rfl, hS1⟩
            have HS1 : Hid (Stp W b sb s (p + 1) w1) := hS1
            clear hS1
            go_wp2_with fail
            go_ret
            rw [HEQ.out]
            exact ⟨rfl, p + 1, HS1.out, by omega, by omega, Lands.some s _ hlt⟩
          | succ r =>
            have HEQ : Hid (passK r 0 (s.data.toList.drop (p + 1)) = R) := by
              have := HE'.out
              rw [if_neg (by decide), if_neg (by decide), if_pos rfl, if_pos rfl, if_neg (by omega)] at this
              exact this
            have hq2 : (((r + 1 : Nat) : Int) + 1 - 1 == 0) = false := by rw [beq_eq_false_iff_ne]; omega
            have hq3 : (((r : Nat) : Int) + 1 == 0) = false := by rw [beq_eq_false_iff_ne]; omega
            clear HE' h91
            go_wp2_with fail
            go_quiet (first | (go_at_call 47; exact Calls.quiet_of_same (HH.out _)))
            obtain ⟨W1, hW1⟩ : ∃ W1, W1 = wr.drewN nq := ⟨_, rfl⟩
            have HSa : Hid (Stp W b sb s p W1) := by rw [hW1]; exact HS.out.drewN nq
            rw [← hW1]
            clear hW1 c0 c1 HH HS
            go_wp2_with fail
            refine Calls.mono (HKY.out _ HSa.out) ?_
            rintro e w1 ⟨rfl, hS1⟩
            have HS1 : Hid (Stp W b sb s (p + 1) w1) := hS1
            clear hS1
            go_wp2_with fail
            refine ⟨⟨r + 1, p + 1, rfl, by simp, by omega, by omega, by omega, fun e => absurd e (by omega), fun _ => ⟨by omega, HEQ.out⟩, HS1.out⟩, ?_⟩
            rw [HS1.out.at_.pos, HP.out]
            omega
        have n93 : ((c.toNat : Int) == 93) = false := byte_ne c 93 h93
        have HEQ : Hid (passK q 0 (s.data.toList.drop (p + 1)) = R) := by
          have := HE'.out
          rw [if_neg h91, if_neg h93] at this
          split at this
          · exact this
          · exact this
        have hq2 : (((q : Nat) : Int) + 1 == 0) = false := by rw [beq_eq_false_iff_ne]; omega
        clear h91 h93 HE'
        go_wp2_with fail
        go_quiet (first | (go_at_call 47; exact Calls.quiet_of_same (HH.out _)))
        obtain ⟨W1, hW1⟩ : ∃ W1, W1 = wr.drewN nq := ⟨_, rfl⟩
        have HSa : Hid (Stp W b sb s p W1) := by rw [hW1]; exact HS.out.drewN nq
        rw [← hW1]
        clear hW1 c0 c1 HH HS
        go_wp2_with fail
        refine Calls.mono (HKY.out _ HSa.out) ?_
        rintro e w1 ⟨rfl, hS1⟩
        have HS1 : Hid (Stp W b sb s (p + 1) w1) := hS1
        clear hS1
        go_wp2_with fail
        refine ⟨⟨q + 1, p + 1, rfl, by simp, by omega, by omega, by omega, fun e => absurd e (by omega), fun _ => ⟨by omega, HEQ.out⟩, HS1.out⟩, ?_⟩
        rw [HS1.out.at_.pos, HP.out]
        omega
      · have HEQ : Hid (R = none) := by unfold Hid; rw [← HE'.out, drop_none s p hlt, passK_nil]
        rw [at_none s p hlt, byteV_none] at HT
        rw [at_none s p hlt, show ((none : Option UInt8) == some 123) = false by decide] at HH
        clear HE'
        go_wp2_with fail
        go_quiet (first | (go_at_call 47; exact Calls.quiet_of_same (HH.out _)))
        obtain ⟨W1, hW1⟩ : ∃ W1, W1 = wr.drewN nq := ⟨_, rfl⟩
        have HSa : Hid (Stp W b sb s p W1) := by rw [hW1]; exact HS.out.drewN nq
        rw [← hW1]
        clear hW1 c0 c1 HH HS
        go_wp2_with fail
        refine Calls.mono (HT.out _ HSa.out) ?_
        rintro e w1 ⟨rfl, hS1⟩
        have HS1 : Hid (Stp W b sb s (p + 1) w1) := HSa.out.trans hS1
        clear hS1
        go_wp2_with fail
        go_ret
        rw [HEQ.out]
        exact ⟨rfl, p + 1, HS1.out, by omega, by omega, Lands.none s _⟩
end Go.Proofs.YtlihkblllakhmaaGreatDoor
