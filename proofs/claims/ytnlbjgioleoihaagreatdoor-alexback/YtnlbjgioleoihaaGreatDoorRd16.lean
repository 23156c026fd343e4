/- What is no token is passed over. -/
import Derived.Test.YtnlbjgioleoihaaGreatDoorRd3
namespace Go.Proofs.YtnlbjgioleoihaaGreatDoor
open Go.RowKit
attribute [local go_sem] Oper.semAt_some

theorem dw_more {q : UInt8 → Bool} (s : ByteArray) (k : Nat) (h : k < s.size) (hc : q s[k] = true) : (s.data.toList.drop k).dropWhile q = (s.data.toList.drop (k + 1)).dropWhile q := by rw [drop_cons s k h, List.dropWhile_cons, if_pos hc]
theorem dw_stop {q : UInt8 → Bool} (s : ByteArray) (k : Nat) (hc : ∀ h : k < s.size, q s[k] = false) : (s.data.toList.drop k).dropWhile q = s.data.toList.drop k := by
  by_cases h : k < s.size
  · rw [drop_cons s k h, List.dropWhile_cons, if_neg (by rw [hc h]; simp)]
  · rw [drop_none s k h]; rfl
set_option maxRecDepth 100000 in
set_option maxHeartbeats 4000000 in
theorem passOver_any {W : World} {b sb k : Nat} {s : ByteArray} (h : Rd W b sb s k) (hs : s.size < 1099511627776) (hk : k ≤ s.size) :
    Calls Tryz.prog 20 #[.pointer (some ⟨b, 0, none⟩)] W fun e w' => e = .returned (.tuple #[]) ∧ ∃ j, Stp W b sb s j w' ∧ k ≤ j ∧ j ≤ s.size ∧ over (s.data.toList.drop k) = s.data.toList.drop j := by
  have HR0 : Hid (Rd W b sb s k) := h
  obtain ⟨R, HR⟩ : ∃ R, Hid (over (s.data.toList.drop k) = R) := ⟨_, rfl⟩
  rw [HR.out]
  clear h
  go_enter Tryz.func20, Tryz.ntmps20
  go_wp2_with fail
  go_loopw [] (fun wr => ∃ p : Nat, k ≤ p ∧ p ≤ s.size ∧ Hid ((s.data.toList.drop k).dropWhile blk = (s.data.toList.drop p).dropWhile blk) ∧ Hid (Stp W b sb s p wr)) (fun wr => s.size + 2 - posOf wr b)
  case atStart => exact ⟨k, Nat.le_refl _, hk, rfl, Stp.refl HR0.out⟩
  case round =>
    obtain ⟨p, hkp, hp, HDW, HS⟩ := hrel
    clear HR0
    have HPO : Hid (posOf wr b = p) := HS.out.at_.pos
    have c0 := HS.out.at_.c0
    have c1 := HS.out.at_.c1
    have HH32 : Hid (∀ m, Calls Tryz.prog 29 #[.pointer (some ⟨sb, 0, none⟩), .int .i64 (p : Nat), .string ⟨#[32]⟩] (wr.drewN m) fun e w' => e = .returned (.bool (s.data.toList[p]? == some 32)) ∧ w' = wr.drewN m) := fun m => hasb_any sb s 32 p (wr.drewN m) HS.out.at_.t0
    have HH9 : Hid (∀ m, Calls Tryz.prog 29 #[.pointer (some ⟨sb, 0, none⟩), .int .i64 (p : Nat), .string ⟨#[9]⟩] (wr.drewN m) fun e w' => e = .returned (.bool (s.data.toList[p]? == some 9)) ∧ w' = wr.drewN m) := fun m => hasb_any sb s 9 p (wr.drewN m) HS.out.at_.t0
    cases h32 : (s.data.toList[p]? == some 32) with
    | true =>
      have hp2 : s.data.toList[p]? = some 32 := by simpa using h32
      have hlt : p < s.size := by simpa using (List.getElem?_eq_some_iff.1 hp2).1
      have hsp : s[p] = 32 := by rw [text_at s p hlt] at hp2; exact Option.some.inj hp2
      have HN : Hid ((s.data.toList.drop k).dropWhile blk = (s.data.toList.drop (p + 1)).dropWhile blk) := by unfold Hid; rw [HDW.out, dw_more s p hlt (by rw [hsp]; rfl)]
      rw [h32] at HH32
      clear h32 hp2 hsp HDW HH9
      go_wp2_with fail
      go_quiet (first | (go_at_call 29; exact Calls.quiet_of_same (HH32.out _)))
      obtain ⟨W4, hW4⟩ : ∃ W4, W4 = wr.drewN nq := ⟨_, rfl⟩
      have HS4 : Hid (Stp W b sb s p W4) := by rw [hW4]; exact HS.out.drewN nq
      have d1 := HS4.out.at_.c1
      have e1 := HS4.out.at_.f1
      rw [← hW4]
      clear hW4 c0 c1 HH32 HS
      go_wp2_with fail
      have HS5 := set_step HS4.out ((p : Int) + 1) (p + 1) (by omega)
      refine ⟨⟨p + 1, by omega, by omega, HN.out, HS5⟩, ?_⟩
      rw [HS5.at_.pos, HPO.out]
      omega
    | false =>
      rw [h32] at HH32
      cases h9 : (s.data.toList[p]? == some 9) with
      | true =>
        have hp2 : s.data.toList[p]? = some 9 := by simpa using h9
        have hlt : p < s.size := by simpa using (List.getElem?_eq_some_iff.1 hp2).1
        have hsp : s[p] = 9 := by rw [text_at s p hlt] at hp2; exact Option.some.inj hp2
        have HN : Hid ((s.data.toList.drop k).dropWhile blk = (s.data.toList.drop (p + 1)).dropWhile blk) := by unfold Hid; rw [HDW.out, dw_more s p hlt (by rw [hsp]; rfl)]
        rw [h9] at HH9
        clear h32 h9 hp2 hsp HDW
        go_wp2_with fail
        go_quiet (first | (go_at_call 29; first | with_reducible exact Calls.quiet_of_same (HH32.out _) | with_reducible exact Calls.quiet_of_same (HH9.out _)))
        obtain ⟨W4, hW4⟩ : ∃ W4, W4 = wr.drewN nq := ⟨_, rfl⟩
        have HS4 : Hid (Stp W b sb s p W4) := by rw [hW4]; exact HS.out.drewN nq
        have d1 := HS4.out.at_.c1
        have e1 := HS4.out.at_.f1
        rw [← hW4]
        clear hW4 c0 c1 HH32 HH9 HS
        go_wp2_with fail
        have HS5 := set_step HS4.out ((p : Int) + 1) (p + 1) (by omega)
        refine ⟨⟨p + 1, by omega, by omega, HN.out, HS5⟩, ?_⟩
        rw [HS5.at_.pos, HPO.out]
        omega
      | false =>
        have HN : Hid ((s.data.toList.drop k).dropWhile blk = s.data.toList.drop p) := by
          unfold Hid
          rw [HDW.out]
          refine dw_stop s p fun h => ?_
          rw [text_at s p h] at h32 h9
          unfold blk
          rw [show (s[p] == 32) = false by simpa using h32, show (s[p] == 9) = false by simpa using h9]
          rfl
        rw [h9] at HH9
        clear h32 h9 HDW HPO
        go_wp2_with fail
        go_quiet (first | (go_at_call 29; first | with_reducible exact Calls.quiet_of_same (HH32.out _) | with_reducible exact Calls.quiet_of_same (HH9.out _)))
        obtain ⟨W4, hW4⟩ : ∃ W4, W4 = wr.drewN nq := ⟨_, rfl⟩
        have HS4 : Hid (Stp W b sb s p W4) := by rw [hW4]; exact HS.out.drewN nq
        rw [← hW4]
        clear hW4 c0 c1 HH32 HH9 HS
        have c0 := HS4.out.at_.c0
        have c1 := HS4.out.at_.c1
        have HH35 : Hid (∀ m, Calls Tryz.prog 29 #[.pointer (some ⟨sb, 0, none⟩), .int .i64 (p : Nat), .string ⟨#[35]⟩] (W4.drewN m) fun e w' => e = .returned (.bool (s.data.toList[p]? == some 35)) ∧ w' = W4.drewN m) := fun m => hasb_any sb s 35 p (W4.drewN m) HS4.out.at_.t0
        cases h35 : (s.data.toList[p]? == some 35) with
        | false =>
          have HRR : Hid (R = s.data.toList.drop p) := by
            unfold Hid
            rw [← HR.out]
            unfold over
            rw [HN.out, drop_head, if_neg (by simpa using h35)]
          rw [h35] at HH35
          clear h35 HN HR
          go_wp2_with fail
          go_quiet (first | (go_at_call 29; exact Calls.quiet_of_same (HH35.out _)))
          go_wp2_with fail
          refine bodyPost_ret (results_none rfl _ _ _) rfl ?_
          rw [HRR.out]
          exact ⟨rfl, p, HS4.out.drewN _, hkp, hp, rfl⟩
        | true =>
          have HRR : Hid (R = (s.data.toList.drop p).dropWhile notNl) := by
            unfold Hid
            rw [← HR.out]
            unfold over
            rw [HN.out, drop_head, if_pos (by simpa using h35)]
          rw [h35] at HH35
          clear h35 HN HR
          go_wp2_with fail
          go_quiet (first | (go_at_call 29; exact Calls.quiet_of_same (HH35.out _)))
          obtain ⟨W5, hW5⟩ : ∃ W5, W5 = W4.drewN nq := ⟨_, rfl⟩
          have HS5 : Hid (Stp W b sb s p W5) := by rw [hW5]; exact HS4.out.drewN nq
          rw [← hW5]
          clear hW5 c0 c1 HH35 HS4
          go_wp2_with fail
          go_loopw [] (fun wr => ∃ q : Nat, k ≤ q ∧ q ≤ s.size ∧ Hid (R = (s.data.toList.drop q).dropWhile notNl) ∧ Hid (Stp W b sb s q wr)) (fun wr => s.size + 2 - posOf wr b)
          case atStart => exact ⟨p, hkp, hp, HRR.out, HS5.out⟩
          case round =>
            obtain ⟨q, hkq, hq, HRQ, HSq⟩ := hrel
            have HPQ : Hid (posOf wr b = q) := HSq.out.at_.pos
            clear HS5 HRR
            have c0 := HSq.out.at_.c0
            have c1 := HSq.out.at_.c1
            have HEN : Hid (∀ m, Calls Tryz.prog 30 #[.pointer (some ⟨b, 0, none⟩)] (wr.drewN m) fun e w' => e = .returned (.bool (decide (s.size ≤ q))) ∧ ∃ n, w' = (wr.drewN m).drewN n) := fun m => ended_any (HSq.out.drewN m).at_
            have HH10 : Hid (∀ m, Calls Tryz.prog 29 #[.pointer (some ⟨sb, 0, none⟩), .int .i64 (q : Nat), .string ⟨#[10]⟩] (wr.drewN m) fun e w' => e = .returned (.bool (s.data.toList[q]? == some 10)) ∧ w' = wr.drewN m) := fun m => hasb_any sb s 10 q (wr.drewN m) HSq.out.at_.t0
            by_cases hle : s.size ≤ q
            · have HRR : Hid (R = s.data.toList.drop q) := by unfold Hid; rw [HRQ.out]; exact dw_stop s q (fun h => absurd h (by omega))
              rw [decide_eq_true hle] at HEN
              clear HRQ hle
              go_wp2_with fail
              go_quiet (first | (go_at_call 30; exact Calls.quiet_of (HEN.out _)))
              go_wp2_with fail
              go_end0
              rw [HRR.out]
              exact ⟨rfl, q, HSq.out.drewN _, hkq, hq, rfl⟩
            · have hlt : q < s.size := by omega
              rw [decide_eq_false hle] at HEN
              rw [text_at s q hlt] at HH10
              clear hle
              by_cases h10 : s[q] = 10
              · have HRR : Hid (R = s.data.toList.drop q) := by unfold Hid; rw [HRQ.out]; exact dw_stop s q (fun _ => by rw [h10]; rfl)
                rw [h10, beq_self_eq_true] at HH10
                clear HRQ h10
                go_wp2_with fail
                go_quiet (first | (go_at_call 30; exact Calls.quiet_of (HEN.out _)) | (go_at_call 29; exact Calls.quiet_of_same (HH10.out _)))
                go_wp2_with fail
                go_end0
                rw [HRR.out]
                exact ⟨rfl, q, HSq.out.drewN _, hkq, hq, rfl⟩
              · have HRR : Hid (R = (s.data.toList.drop (q + 1)).dropWhile notNl) := by unfold Hid; rw [HRQ.out]; exact dw_more s q hlt (by unfold notNl; simpa using h10)
                have HH : Hid (∀ m, Calls Tryz.prog 29 #[.pointer (some ⟨sb, 0, none⟩), .int .i64 (q : Nat), .string ⟨#[10]⟩] (wr.drewN m) fun e w' => e = .returned (.bool false) ∧ w' = wr.drewN m) := fun m => by
                  have := HH10.out m
                  rw [show (some s[q] == some (10 : UInt8)) = false by simpa using h10] at this
                  exact this
                clear HRQ h10 HH10
                go_wp2_with fail
                go_quiet (first | (go_at_call 30; exact Calls.quiet_of (HEN.out _)) | (go_at_call 29; exact Calls.quiet_of_same (HH.out _)))
                obtain ⟨W6, hW6⟩ : ∃ W6, W6 = wr.drewN nq := ⟨_, rfl⟩
                have HS6 : Hid (Stp W b sb s q W6) := by rw [hW6]; exact HSq.out.drewN nq
                have d1 := HS6.out.at_.c1
                have e1 := HS6.out.at_.f1
                rw [← hW6]
                clear hW6 c0 c1 HH HEN HSq
                go_wp2_with fail
                have HS7 := set_step HS6.out ((q : Int) + 1) (q + 1) (by omega)
                refine ⟨⟨q + 1, by omega, by omega, HRR.out, HS7⟩, ?_⟩
                rw [HS7.at_.pos, HPQ.out]
                omega
end Go.Proofs.YtnlbjgioleoihaaGreatDoor
