/- Behind a bracket, behind a double quote. -/
import Derived.Test.YtnlbjgioleoihaaGreatDoorRd2
namespace Go.Proofs.YtnlbjgioleoihaaGreatDoor
open Go.RowKit
attribute [local go_sem] Oper.semAt_some

/-- What passes a command's text (1), or a text between double quotes (0), does, with so much fuel. -/
def PassC (fn mode : Nat) (b sb : Nat) (s : ByteArray) (f : Nat) : Prop := ∀ (W : World) (k : Nat), Rd W b sb s k → k ≤ s.size + 1 → s.size + 1 - k < f →
  Calls Tryz.prog fn #[.pointer (some ⟨b, 0, none⟩)] W fun e w' => e = .returned (.bool (pass f mode (s.data.toList.drop k)).isSome) ∧ ∃ j, Stp W b sb s j w' ∧ k < j ∧ j ≤ s.size + 2 ∧ Lands s j (pass f mode (s.data.toList.drop k))
theorem pass_nil (f k : Nat) : pass f k [] = none := by
  cases f with
  | zero => rfl
  | succ f => cases k <;> rfl
theorem pass_cmd (f k : Nat) (c : UInt8) (t : List UInt8) : pass (f + 1) (k + 1) (c :: t) = if c = 92 then pass f (k + 1) t.tail
    else if c = 39 then (pSing t).bind (pass f (k + 1))
    else if c = 34 then (pass f 0 t).bind (pass f (k + 1))
    else if c = 40 then pass f (k + 2) t
    else if c = 41 then (if k = 0 then some t else pass f k t)
    else pass f (k + 1) t := rfl
theorem pass_dbl (f : Nat) (c : UInt8) (t : List UInt8) : pass (f + 1) 0 (c :: t) = if c = 34 then some t
    else if c = 92 then pass f 0 t.tail
    else if c = 36 ∧ t.head? = some 40 then (pass f 1 t.tail).bind (pass f 0)
    else pass f 0 t := rfl
theorem set_step {W w1 : World} {b sb p : Nat} {s : ByteArray} (h : Stp W b sb s p w1) (v : Int) (j : Nat) (hv : v = (j : Nat)) : Stp W b sb s j (w1.setCell ⟨b, 1, none⟩ (.int .i64 v)) := by
  subst hv
  exact h.set j
theorem tail_drop (s : ByteArray) (k : Nat) : (s.data.toList.drop k).tail = s.data.toList.drop (k + 1) := by rw [List.tail_drop]
set_option maxRecDepth 100000 in
set_option maxHeartbeats 4000000 in
theorem cmd_of (b sb : Nat) (s : ByteArray) (hs : s.size < 1152921504606846976) (f : Nat) (hD : ∀ f', f' < f → PassC 79 0 b sb s f') : PassC 71 1 b sb s f := by
  intro W k h hk hf
  have HD : Hid (∀ f', f' < f → PassC 79 0 b sb s f') := hD
  have HR0 : Hid (Rd W b sb s k) := h
  clear h hD
  obtain ⟨R, HR⟩ : ∃ R, Hid (pass f 1 (s.data.toList.drop k) = R) := ⟨_, rfl⟩
  rw [HR.out]
  go_enter Tryz.func71, Tryz.ntmps71
  go_wp2_with fail
  go_loopw [2, 3] (fun v2 v3 wr => ∃ op p g : Nat, v2 = .bool false ∧ v3 = .int .i64 (op : Nat) ∧ k ≤ p ∧ p ≤ s.size + 1 ∧ op ≤ p + 1 ∧ s.size + 1 - p < g ∧ g ≤ f ∧ Hid (op = 0 → R = some (s.data.toList.drop p) ∧ p ≤ s.size ∧ k < p) ∧ Hid (op ≠ 0 → pass g op (s.data.toList.drop p) = R) ∧ Hid (Stp W b sb s p wr)) (fun _ _ wr => s.size + 2 - posOf wr b)
  case atStart => exact ⟨1, k, f, rfl, rfl, Nat.le_refl _, hk, by omega, hf, Nat.le_refl _, fun e => absurd e (by omega), fun _ => HR.out, Stp.refl HR0.out⟩
  case round =>
    obtain ⟨op, p, g, rfl, rfl, hkp, hp, hop, hg, hgf, HZ, HE, HS⟩ := hrel
    cases op with
    | zero =>
      have HQ : Hid _ := HZ.out rfl
      clear HZ HE
      go_wp2_with fail
      go_ret
      rw [HQ.out.1]
      exact ⟨rfl, p, HS.out, HQ.out.2.2, by omega, Lands.some s _ HQ.out.2.1⟩
    | succ q =>
      have HE' : Hid (pass g (q + 1) (s.data.toList.drop p) = R) := HE.out (by omega)
      clear HZ HE
      obtain ⟨g', rfl⟩ : ∃ g', g = g' + 1 := ⟨g - 1, by omega⟩
      have HP : Hid (posOf wr b = p) := HS.out.at_.pos
      have HT : Hid (Calls Tryz.prog 67 #[.pointer (some ⟨b, 0, none⟩)] wr fun e w' => e = .returned (.tuple (byteV s.data.toList[p]?)) ∧ Stp wr b sb s (p + 1) w') := take_any HS.out.at_ (by omega)
      have hgt : (0 : Int) < ((q + 1 : Nat) : Int) := by omega
      by_cases hlt : p < s.size
      · have HC : Hid (s.data.toList.drop p = s[p] :: s.data.toList.drop (p + 1)) := drop_cons s p hlt
        rw [text_at s p hlt, byteV_some] at HT
        rw [HC.out, pass_cmd] at HE'
        clear HC
        generalize s[p] = c at HT HE'
        by_cases h92 : c = 92
        · subst h92
          rw [if_pos rfl, tail_drop] at HE'
          go_wp2_with fail
          refine Calls.mono HT.out ?_
          rintro e w1 ⟨rfl, hS1⟩
          have HS1 : Hid (Stp W b sb s (p + 1) w1) := HS.out.trans hS1
          clear hS1
          have c1 : w1.cell? ⟨b, 1, none⟩ = some (.int .i64 ((p : Int) + 1)) := HS1.out.at_.c1
          have f1 := HS1.out.at_.f1
          go_wp2_with fail
          have HS2 := set_step HS1.out ((p : Int) + 1 + 1) (p + 2) (by omega)
          refine ⟨⟨q + 1, p + 2, g', rfl, rfl, by omega, by omega, by omega, by omega, by omega, fun e => absurd e (by omega), fun _ => HE'.out, HS2⟩, ?_⟩
          rw [HS2.at_.pos, HP.out]
          omega
        rw [if_neg h92] at HE'
        have n92 : ((c.toNat : Int) == 92) = false := byte_ne c 92 h92
        clear h92
        by_cases h39 : c = 39
        · subst h39
          rw [if_pos rfl] at HE'
          go_wp2_with fail
          refine Calls.mono HT.out ?_
          rintro e w1 ⟨rfl, hS1⟩
          have HS1 : Hid (Stp W b sb s (p + 1) w1) := HS.out.trans hS1
          clear hS1
          have HN : Hid _ := passSingle_any HS1.out.at_ hs (by omega)
          generalize pSing (s.data.toList.drop (p + 1)) = N at HN HE'
          cases N with
          | none =>
            have HEQ : Hid (R = none) := HE'.out.symm
            go_wp2_with fail
            refine Calls.mono HN.out ?_
            rintro e w2 ⟨rfl, jj, hS2, hj1, hj2, hL⟩
            have HS2 : Hid (Stp W b sb s jj w2) := HS1.out.trans hS2
            clear hS2 hL
            go_wp2_with fail
            go_ret
            rw [HEQ.out]
            exact ⟨rfl, jj, HS2.out, by omega, by omega, Lands.none s _⟩
          | some t =>
            go_wp2_with fail
            refine Calls.mono HN.out ?_
            rintro e w2 ⟨rfl, jj, hS2, hj1, hj2, hL⟩
            have HS2 : Hid (Stp W b sb s jj w2) := HS1.out.trans hS2
            obtain ⟨rfl, hj3⟩ := hL t rfl
            have HEQ : Hid (pass g' (q + 1) (s.data.toList.drop jj) = R) := HE'.out
            clear hS2 hL HE'
            go_wp2_with fail
            refine ⟨⟨q + 1, jj, g', rfl, rfl, by omega, by omega, by omega, by omega, by omega, fun e => absurd e (by omega), fun _ => HEQ.out, HS2.out⟩, ?_⟩
            rw [HS2.out.at_.pos, HP.out]
            omega
        rw [if_neg h39] at HE'
        have n39 : ((c.toNat : Int) == 39) = false := byte_ne c 39 h39
        clear h39
        by_cases h34 : c = 34
        · subst h34
          rw [if_pos rfl] at HE'
          go_wp2_with fail
          refine Calls.mono HT.out ?_
          rintro e w1 ⟨rfl, hS1⟩
          have HS1 : Hid (Stp W b sb s (p + 1) w1) := HS.out.trans hS1
          clear hS1
          have HN : Hid _ := HD.out g' (by omega) w1 (p + 1) HS1.out.at_ (by omega) (by omega)
          generalize pass g' 0 (s.data.toList.drop (p + 1)) = N at HN HE'
          cases N with
          | none =>
            have HEQ : Hid (R = none) := HE'.out.symm
            go_wp2_with fail
            refine Calls.mono HN.out ?_
            rintro e w2 ⟨rfl, jj, hS2, hj1, hj2, hL⟩
            have HS2 : Hid (Stp W b sb s jj w2) := HS1.out.trans hS2
            clear hS2 hL
            go_wp2_with fail
            go_ret
            rw [HEQ.out]
            exact ⟨rfl, jj, HS2.out, by omega, by omega, Lands.none s _⟩
          | some t =>
            go_wp2_with fail
            refine Calls.mono HN.out ?_
            rintro e w2 ⟨rfl, jj, hS2, hj1, hj2, hL⟩
            have HS2 : Hid (Stp W b sb s jj w2) := HS1.out.trans hS2
            obtain ⟨rfl, hj3⟩ := hL t rfl
            have HEQ : Hid (pass g' (q + 1) (s.data.toList.drop jj) = R) := HE'.out
            clear hS2 hL HE'
            go_wp2_with fail
            refine ⟨⟨q + 1, jj, g', rfl, rfl, by omega, by omega, by omega, by omega, by omega, fun e => absurd e (by omega), fun _ => HEQ.out, HS2.out⟩, ?_⟩
            rw [HS2.out.at_.pos, HP.out]
            omega
        rw [if_neg h34] at HE'
        have n34 : ((c.toNat : Int) == 34) = false := byte_ne c 34 h34
        clear h34
        by_cases h40 : c = 40
        · subst h40
          rw [if_pos rfl] at HE'
          go_wp2_with fail
          refine Calls.mono HT.out ?_
          rintro e w1 ⟨rfl, hS1⟩
          have HS1 : Hid (Stp W b sb s (p + 1) w1) := HS.out.trans hS1
          clear hS1
          go_wp2_with fail
          refine ⟨⟨q + 2, p + 1, g', rfl, by simp; omega, by omega, by omega, by omega, by omega, by omega, fun e => absurd e (by omega), fun _ => HE'.out, HS1.out⟩, ?_⟩
          rw [HS1.out.at_.pos, HP.out]
          omega
        rw [if_neg h40] at HE'
        have n40 : ((c.toNat : Int) == 40) = false := byte_ne c 40 h40
        clear h40
        by_cases h41 : c = 41
        · subst h41
          rw [if_pos rfl] at HE'
          go_wp2_with fail
          refine Calls.mono HT.out ?_
          rintro e w1 ⟨rfl, hS1⟩
          have HS1 : Hid (Stp W b sb s (p + 1) w1) := HS.out.trans hS1
          clear hS1
          go_wp2_with fail
          refine ⟨⟨q, p + 1, g', rfl, by simp, by omega, by omega, by omega, by omega, by omega, fun e => ⟨by have := HE'.out; rw [if_pos e] at this; exact this.symm, hlt, by omega⟩, fun e => by have := HE'.out; rw [if_neg e] at this; exact this, HS1.out⟩, ?_⟩
          rw [HS1.out.at_.pos, HP.out]
          omega
        rw [if_neg h41] at HE'
        have n41 : ((c.toNat : Int) == 41) = false := byte_ne c 41 h41
        clear h41
        go_wp2_with fail
        refine Calls.mono HT.out ?_
        rintro e w1 ⟨rfl, hS1⟩
        have HS1 : Hid (Stp W b sb s (p + 1) w1) := HS.out.trans hS1
        clear hS1
        go_wp2_with fail
        refine ⟨⟨q + 1, p + 1, g', rfl, rfl, by omega, by omega, by omega, by omega, by omega, fun e => absurd e (by omega), fun _ => HE'.out, HS1.out⟩, ?_⟩
        rw [HS1.out.at_.pos, HP.out]
        omega
      · rw [drop_none s p hlt] at HE'
        have HEQ : Hid (R = none) := by unfold Hid; rw [← HE'.out, pass_nil]
        rw [at_none s p hlt, byteV_none] at HT
        clear HE'
        go_wp2_with fail
        refine Calls.mono HT.out ?_
        rintro e w1 ⟨rfl, hS1⟩
        have HS1 : Hid (Stp W b sb s (p + 1) w1) := HS.out.trans hS1
        clear hS1
        go_wp2_with fail
        go_ret
        rw [HEQ.out]
        exact ⟨rfl, p + 1, HS1.out, by omega, by omega, Lands.none s _⟩
set_option maxRecDepth 100000 in
set_option maxHeartbeats 4000000 in
theorem dbl_of (b sb : Nat) (s : ByteArray) (hs : s.size < 1152921504606846976) (f : Nat) (hD : ∀ f', f' < f → PassC 71 1 b sb s f') : PassC 79 0 b sb s f := by
  intro W k h hk hf
  have HD : Hid (∀ f', f' < f → PassC 71 1 b sb s f') := hD
  have HR0 : Hid (Rd W b sb s k) := h
  clear h hD
  obtain ⟨R, HR⟩ : ∃ R, Hid (pass f 0 (s.data.toList.drop k) = R) := ⟨_, rfl⟩
  rw [HR.out]
  go_enter Tryz.func79, Tryz.ntmps79
  go_wp2_with fail
  go_loopw [2] (fun v2 wr => ∃ p g : Nat, v2 = .bool false ∧ k ≤ p ∧ p ≤ s.size + 1 ∧ s.size + 1 - p < g ∧ g ≤ f ∧ Hid (pass g 0 (s.data.toList.drop p) = R) ∧ Hid (Stp W b sb s p wr)) (fun _ wr => s.size + 2 - posOf wr b)
  case atStart => exact ⟨k, f, rfl, Nat.le_refl _, hk, hf, Nat.le_refl _, HR.out, Stp.refl HR0.out⟩
  case round =>
    obtain ⟨p, g, rfl, hkp, hp, hg, hgf, HE', HS⟩ := hrel
    obtain ⟨g', rfl⟩ : ∃ g', g = g' + 1 := ⟨g - 1, by omega⟩
    have HP : Hid (posOf wr b = p) := HS.out.at_.pos
    have HT : Hid (Calls Tryz.prog 67 #[.pointer (some ⟨b, 0, none⟩)] wr fun e w' => e = .returned (.tuple (byteV s.data.toList[p]?)) ∧ Stp wr b sb s (p + 1) w') := take_any HS.out.at_ (by omega)
    by_cases hlt : p < s.size
    · have HC : Hid (s.data.toList.drop p = s[p] :: s.data.toList.drop (p + 1)) := drop_cons s p hlt
      rw [text_at s p hlt, byteV_some] at HT
      rw [HC.out, pass_dbl] at HE'
      clear HC
      generalize s[p] = c at HT HE'
      by_cases h34 : c = 34
      · subst h34
        rw [if_pos rfl] at HE'
        go_wp2_with fail
        refine Calls.mono HT.out ?_
        rintro e w1 ⟨rfl, hS1⟩
        have HS1 : Hid (Stp W b sb s (p + 1) w1) := HS.out.trans hS1
        clear hS1
        go_wp2_with fail
        go_ret
        rw [← HE'.out]
        exact ⟨rfl, p + 1, HS1.out, by omega, by omega, Lands.some s _ hlt⟩
      rw [if_neg h34] at HE'
      have n34 : ((c.toNat : Int) == 34) = false := byte_ne c 34 h34
      clear h34
      by_cases h92 : c = 92
      · subst h92
        rw [if_pos rfl, tail_drop] at HE'
        go_wp2_with fail
        refine Calls.mono HT.out ?_
        rintro e w1 ⟨rfl, hS1⟩
        have HS1 : Hid (Stp W b sb s (p + 1) w1) := HS.out.trans hS1
        clear hS1
        have c1 : w1.cell? ⟨b, 1, none⟩ = some (.int .i64 ((p : Int) + 1)) := HS1.out.at_.c1
        have f1 := HS1.out.at_.f1
        go_wp2_with fail
        have HS2 := set_step HS1.out ((p : Int) + 1 + 1) (p + 2) (by omega)
        refine ⟨⟨p + 2, g', rfl, by omega, by omega, by omega, by omega, HE'.out, HS2⟩, ?_⟩
        rw [HS2.at_.pos, HP.out]
        omega
      rw [if_neg h92] at HE'
      have n92 : ((c.toNat : Int) == 92) = false := byte_ne c 92 h92
      clear h92
      by_cases h36 : c = 36
      · subst h36
        rw [drop_head] at HE'
        by_cases h40 : s.data.toList[p + 1]? = some 40
        · rw [if_pos ⟨rfl, h40⟩, tail_drop] at HE'
          have hl2 : p + 1 < s.size := by simpa using (List.getElem?_eq_some_iff.1 h40).1
          go_wp2_with fail
          refine Calls.mono HT.out ?_
          rintro e w1 ⟨rfl, hS1⟩
          have HS1 : Hid (Stp W b sb s (p + 1) w1) := HS.out.trans hS1
          clear hS1
          have HH : Hid (∀ m, Calls Tryz.prog 29 #[.pointer (some ⟨sb, 0, none⟩), .int .i64 ((p : Int) + 1), .string ⟨#[40]⟩] (w1.drewN m) fun e w' => e = .returned (.bool true) ∧ w' = w1.drewN m) := fun m => by
            have := hasb_any sb s 40 (p + 1) (w1.drewN m) HS1.out.at_.t0
            rw [h40, beq_self_eq_true] at this
            exact this
          have c0 := HS1.out.at_.c0
          have c1 : w1.cell? ⟨b, 1, none⟩ = some (.int .i64 ((p : Int) + 1)) := HS1.out.at_.c1
          have f1 := HS1.out.at_.f1
          clear h40
          go_wp2_with fail
          go_quiet (first | (go_at_call 29; exact Calls.quiet_of_same (HH.out _)))
          obtain ⟨W2, hW2⟩ : ∃ W2, W2 = w1.drewN nq := ⟨_, rfl⟩
          have HS2 : Hid (Stp W b sb s (p + 1) W2) := by rw [hW2]; exact HS1.out.drewN nq
          have d1 : W2.cell? ⟨b, 1, none⟩ = some (.int .i64 ((p : Int) + 1)) := HS2.out.at_.c1
          have g1 := HS2.out.at_.f1
          rw [← hW2]
          clear hW2 c0 c1 f1 HH HS1
          go_wp2_with fail
          have hS3 := set_step HS2.out ((p : Int) + 1 + 1) (p + 2) (by omega)
          obtain ⟨W3, hW3⟩ : ∃ W3, W3 = W2.setCell ⟨b, 1, none⟩ (.int .i64 ((p : Int) + 1 + 1)) := ⟨_, rfl⟩
          rw [← hW3] at hS3 ⊢
          have HS3 : Hid (Stp W b sb s (p + 2) W3) := hS3
          have HN : Hid _ := HD.out g' (by omega) W3 (p + 2) hS3.at_ (by omega) (by omega)
          clear hW3 hS3 d1 g1
          rw [show p + 1 + 1 = p + 2 from rfl] at HE'
          generalize pass g' 1 (s.data.toList.drop (p + 2)) = N at HN HE'
          cases N with
          | none =>
            have HEQ : Hid (R = none) := HE'.out.symm
            refine Calls.mono HN.out ?_
            rintro e w4 ⟨rfl, jj, hS4, hj1, hj2, hL⟩
            have HS4 : Hid (Stp W b sb s jj w4) := HS3.out.trans hS4
            clear hS4 hL
            go_wp2_with fail
            go_ret
            rw [HEQ.out]
            exact ⟨rfl, jj, HS4.out, by omega, by omega, Lands.none s _⟩
          | some t =>
            refine Calls.mono HN.out ?_
            rintro e w4 ⟨rfl, jj, hS4, hj1, hj2, hL⟩
            have HS4 : Hid (Stp W b sb s jj w4) := HS3.out.trans hS4
            obtain ⟨rfl, hj3⟩ := hL t rfl
            have HEQ : Hid (pass g' 0 (s.data.toList.drop jj) = R) := HE'.out
            clear hS4 hL HE'
            go_wp2_with fail
            refine ⟨⟨jj, g', rfl, by omega, by omega, by omega, by omega, HEQ.out, HS4.out⟩, ?_⟩
            rw [HS4.out.at_.pos, HP.out]
            omega
        · rw [if_neg (fun e => h40 e.2)] at HE'
          go_wp2_with fail
          refine Calls.mono HT.out ?_
          rintro e w1 ⟨rfl, hS1⟩
          have HS1 : Hid (Stp W b sb s (p + 1) w1) := HS.out.trans hS1
          clear hS1
          have HH : Hid (∀ m, Calls Tryz.prog 29 #[.pointer (some ⟨sb, 0, none⟩), .int .i64 ((p : Int) + 1), .string ⟨#[40]⟩] (w1.drewN m) fun e w' => e = .returned (.bool false) ∧ w' = w1.drewN m) := fun m => by
            have := hasb_any sb s 40 (p + 1) (w1.drewN m) HS1.out.at_.t0
            rw [show (s.data.toList[p + 1]? == some 40) = false by simpa using h40] at this
            exact this
          have c0 := HS1.out.at_.c0
          have c1 : w1.cell? ⟨b, 1, none⟩ = some (.int .i64 ((p : Int) + 1)) := HS1.out.at_.c1
          have f1 := HS1.out.at_.f1
          clear h40
          go_wp2_with fail
          go_quiet (first | (go_at_call 29; exact Calls.quiet_of_same (HH.out _)))
          obtain ⟨W2, hW2⟩ : ∃ W2, W2 = w1.drewN nq := ⟨_, rfl⟩
          have HS2 : Hid (Stp W b sb s (p + 1) W2) := by rw [hW2]; exact HS1.out.drewN nq
          have d1 : W2.cell? ⟨b, 1, none⟩ = some (.int .i64 ((p : Int) + 1)) := HS2.out.at_.c1
          have g1 := HS2.out.at_.f1
          rw [← hW2]
          clear hW2 c0 c1 f1 HH HS1
          go_wp2_with fail
          refine ⟨⟨p + 1, g', rfl, by omega, by omega, by omega, by omega, HE'.out, HS2.out⟩, ?_⟩
          rw [HS2.out.at_.pos, HP.out]
          omega
      rw [if_neg (fun e => h36 e.1)] at HE'
      have n36 : ((c.toNat : Int) == 36) = false := byte_ne c 36 h36
      clear h36
      go_wp2_with fail
      refine Calls.mono HT.out ?_
      rintro e w1 ⟨rfl, hS1⟩
      have HS1 : Hid (Stp W b sb s (p + 1) w1) := HS.out.trans hS1
      clear hS1
      go_wp2_with fail
      go_quiet (fail)
      obtain ⟨W2, hW2⟩ : ∃ W2, W2 = w1.drewN nq := ⟨_, rfl⟩
      have HS2 : Hid (Stp W b sb s (p + 1) W2) := by rw [hW2]; exact HS1.out.drewN nq
      rw [← hW2]
      clear hW2 HS1
      go_wp2_with fail
      refine ⟨⟨p + 1, g', rfl, by omega, by omega, by omega, by omega, HE'.out, HS2.out⟩, ?_⟩
      rw [HS2.out.at_.pos, HP.out]
      omega
    · rw [drop_none s p hlt] at HE'
      have HEQ : Hid (R = none) := by unfold Hid; rw [← HE'.out, pass_nil]
      rw [at_none s p hlt, byteV_none] at HT
      clear HE'
      go_wp2_with fail
      refine Calls.mono HT.out ?_
      rintro e w1 ⟨rfl, hS1⟩
      have HS1 : Hid (Stp W b sb s (p + 1) w1) := HS.out.trans hS1
      clear hS1
      go_wp2_with fail
      go_ret
      rw [HEQ.out]
      exact ⟨rfl, p + 1, HS1.out, by omega, by omega, Lands.none s _⟩
/-- Both, for every fuel. -/
theorem pass_all (b sb : Nat) (s : ByteArray) (hs : s.size < 1152921504606846976) : ∀ f, PassC 71 1 b sb s f ∧ PassC 79 0 b sb s f := by
  intro f
  induction f using Nat.strongRecOn with
  | _ f ih => exact ⟨cmd_of b sb s hs f (fun f' h => (ih f' h).2), dbl_of b sb s hs f (fun f' h => (ih f' h).1)⟩
end Go.Proofs.YtnlbjgioleoihaaGreatDoor
