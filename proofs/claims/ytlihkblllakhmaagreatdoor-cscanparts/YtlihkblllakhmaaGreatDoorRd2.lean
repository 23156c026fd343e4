/- Blanks, a comment, braces and brackets are passed over. -/
import Derived.Test.YtlihkblllakhmaaGreatDoorRd1
import Derived.Deep.RegionHeld3
import Derived.Deep.Light
namespace Go.Proofs.YtlihkblllakhmaaGreatDoor
open Go.RowKit
attribute [local go_sem] Oper.semAt_some

theorem set_step {W w1 : World} {b sb p : Nat} {s : ByteArray} (h : Stp W b sb s p w1) (v : Int) (j : Nat) (hv : v = (j : Nat)) : Stp W b sb s j (w1.setCell ⟨b, 1, none⟩ (.int .i64 v)) := by
  subst hv
  exact h.set j
theorem at_none (s : ByteArray) (k : Nat) (h : ¬ k < s.size) : s.data.toList[k]? = none := List.getElem?_eq_none (by simp; omega)
theorem drop_none (s : ByteArray) (k : Nat) (h : ¬ k < s.size) : s.data.toList.drop k = [] := List.drop_eq_nil_of_le (by simp; omega)
theorem dw_more {q : UInt8 → Bool} (s : ByteArray) (k : Nat) (h : k < s.size) (hc : q s[k] = true) : (s.data.toList.drop k).dropWhile q = (s.data.toList.drop (k + 1)).dropWhile q := by rw [drop_cons s k h, List.dropWhile_cons, if_pos hc]
theorem dw_stop {q : UInt8 → Bool} (s : ByteArray) (k : Nat) (hc : ∀ h : k < s.size, q s[k] = false) : (s.data.toList.drop k).dropWhile q = s.data.toList.drop k := by
  by_cases h : k < s.size
  · rw [drop_cons s k h, List.dropWhile_cons, if_neg (by rw [hc h]; simp)]
  · rw [drop_none s k h]; rfl
theorem byte_ne (c d : UInt8) (h : c ≠ d) : ((c.toNat : Int) == (d.toNat : Int)) = false := by
  have : ¬ (c.toNat : Int) = (d.toNat : Int) := fun e => h (UInt8.toNat_inj.1 (by omega))
  simpa using this
/-- A reader that has come to what is left of a text, if anything is told of it. -/
def Lands (s : ByteArray) (j : Nat) (R : Option (List UInt8)) : Prop := ∀ t, R = some t → t = s.data.toList.drop j ∧ j ≤ s.size
theorem Lands.none (s : ByteArray) (j : Nat) : Lands s j none := fun t h => by cases h
theorem Lands.some (s : ByteArray) (j : Nat) (h : j ≤ s.size) : Lands s j (some (s.data.toList.drop j)) := fun t e => by cases e; exact ⟨rfl, h⟩
set_option maxRecDepth 100000 in
set_option maxHeartbeats 4000000 in
theorem passBlanks_any {W : World} {b sb k : Nat} {s : ByteArray} (h : Rd W b sb s k) (hs : s.size < 1099511627776) (hk : k ≤ s.size) :
    Calls Tryz.prog 34 #[.pointer (some ⟨b, 0, none⟩)] W fun e w' => e = .returned (.tuple #[]) ∧ ∃ j, Stp W b sb s j w' ∧ k ≤ j ∧ j ≤ s.size ∧ (s.data.toList.drop k).dropWhile blk = s.data.toList.drop j := by
  have HR0 : Hid (Rd W b sb s k) := h
  clear h
  go_enter Tryz.func34, Tryz.ntmps34
  go_wp2_with fail
  go_loopw [] (fun wr => ∃ p : Nat, k ≤ p ∧ p ≤ s.size ∧ Hid ((s.data.toList.drop k).dropWhile blk = (s.data.toList.drop p).dropWhile blk) ∧ Hid (Stp W b sb s p wr)) (fun wr => s.size + 2 - posOf wr b)
  case atStart => exact ⟨k, Nat.le_refl _, hk, rfl, Stp.refl HR0.out⟩
  case round =>
    obtain ⟨p, hkp, hp, HDW, HS⟩ := hrel
    clear HR0
    have HPO : Hid (posOf wr b = p) := HS.out.at_.pos
    have HEN : Hid _ := ended_any HS.out.at_
    by_cases hlt : p < s.size
    · rw [decide_eq_false (by omega)] at HEN
      cases hb : blk s[p] with
      | true =>
        have HN : Hid ((s.data.toList.drop k).dropWhile blk = (s.data.toList.drop (p + 1)).dropWhile blk) := by unfold Hid; rw [HDW.out, dw_more s p hlt hb]
        have HEA : Hid (∀ w, Stp W b sb s p w → Calls Tryz.prog 36 #[.pointer (some ⟨b, 0, none⟩), .string ⟨#[32, 9]⟩] w fun e w' => e = .returned (.bool true) ∧ ∃ m, w' = w.drewN m) := fun w hw => by
          have := endsAt_any hw.at_ blkS
          rw [text_at s p hlt, show endQ blkS (some s[p]) = blk s[p] from rfl, hb] at this
          exact this
        clear hb HDW
        go_wp2_with fail
        refine Calls.mono HEN.out ?_
        rintro e w1 ⟨rfl, m1, hw1⟩
        have HS1 : Hid (Stp W b sb s p w1) := by rw [hw1]; exact HS.out.drewN m1
        clear hw1 HEN HS
        go_wp2_with fail
        refine Calls.mono (HEA.out _ HS1.out) ?_
        rintro e w2 ⟨rfl, m2, hw2⟩
        have HS2 : Hid (Stp W b sb s p w2) := by rw [hw2]; exact HS1.out.drewN m2
        have d1 := HS2.out.at_.c1
        have e1 := HS2.out.at_.f1
        clear hw2 HEA HS1
        go_wp2_with fail
        have HS5 := set_step HS2.out ((p : Int) + 1) (p + 1) (by omega)
        refine ⟨⟨p + 1, by omega, by omega, HN.out, HS5⟩, ?_⟩
        rw [HS5.at_.pos, HPO.out]
        omega
      | false =>
        have HN : Hid ((s.data.toList.drop k).dropWhile blk = s.data.toList.drop p) := by unfold Hid; rw [HDW.out, dw_stop s p (fun _ => hb)]
        have HEA : Hid (∀ w, Stp W b sb s p w → Calls Tryz.prog 36 #[.pointer (some ⟨b, 0, none⟩), .string ⟨#[32, 9]⟩] w fun e w' => e = .returned (.bool false) ∧ ∃ m, w' = w.drewN m) := fun w hw => by
          have := endsAt_any hw.at_ blkS
          rw [text_at s p hlt, show endQ blkS (some s[p]) = blk s[p] from rfl, hb] at this
          exact this
        clear hb HDW HPO
        go_wp2_with fail
        refine Calls.mono HEN.out ?_
        rintro e w1 ⟨rfl, m1, hw1⟩
        have HS1 : Hid (Stp W b sb s p w1) := by rw [hw1]; exact HS.out.drewN m1
        clear hw1 HEN HS
        go_wp2_with fail
        refine Calls.mono (HEA.out _ HS1.out) ?_
        rintro e w2 ⟨rfl, m2, hw2⟩
        have HS2 : Hid (Stp W b sb s p w2) := by rw [hw2]; exact HS1.out.drewN m2
        clear hw2 HEA HS1
        go_wp2_with fail
        go_end0
        exact ⟨rfl, p, HS2.out, hkp, hp, HN.out⟩
    · rw [decide_eq_true (by omega)] at HEN
      have HN : Hid ((s.data.toList.drop k).dropWhile blk = s.data.toList.drop p) := by unfold Hid; rw [HDW.out, dw_stop s p (fun h => absurd h hlt)]
      clear HDW HPO
      go_wp2_with fail
      refine Calls.mono HEN.out ?_
      rintro e w1 ⟨rfl, m1, hw1⟩
      have HS1 : Hid (Stp W b sb s p w1) := by rw [hw1]; exact HS.out.drewN m1
      clear hw1 HEN HS
      go_wp2_with fail
      go_end0
      exact ⟨rfl, p, HS1.out, hkp, hp, HN.out⟩
set_option maxRecDepth 100000 in
set_option maxHeartbeats 4000000 in
theorem passComment_any {W : World} {b sb k : Nat} {s : ByteArray} (h : Rd W b sb s k) (hs : s.size < 1099511627776) (hk : k ≤ s.size) :
    Calls Tryz.prog 35 #[.pointer (some ⟨b, 0, none⟩)] W fun e w' => e = .returned (.tuple #[]) ∧ ∃ j, Stp W b sb s j w' ∧ k ≤ j ∧ j ≤ s.size ∧ overC (s.data.toList.drop k) = s.data.toList.drop j := by
  have HR0 : Hid (Rd W b sb s k) := h
  have c0 := h.c0
  have c1 := h.c1
  have HH : Hid (∀ m, Calls Tryz.prog 47 #[.pointer (some ⟨sb, 0, none⟩), .int .i64 (k : Nat), .string ⟨#[35]⟩] (W.drewN m) fun e w' => e = .returned (.bool (s.data.toList[k]? == some 35)) ∧ w' = W.drewN m) := fun m => hasb_any sb s 35 k (W.drewN m) h.t0
  clear h
  have HO : Hid (overC (s.data.toList.drop k) = if (s.data.toList[k]? == some 35) = true then (s.data.toList.drop k).dropWhile notNl else s.data.toList.drop k) := by
    unfold Hid overC
    rw [drop_head]
    simp
  cases hh : (s.data.toList[k]? == some 35) with
  | false =>
    rw [hh] at HH HO
    clear hh
    go_enter Tryz.func35, Tryz.ntmps35
    go_wp2_with fail
    go_quiet (first | (go_at_call 47; exact Calls.quiet_of_same (HH.out _)))
    go_wp2_with fail
    refine bodyPost_ret (results_none rfl _ _ _) rfl ?_
    refine ⟨rfl, k, (Stp.refl HR0.out).drewN _, Nat.le_refl _, hk, ?_⟩
    rw [HO.out]
    rfl
  | true =>
    rw [hh] at HH HO
    clear hh
    go_enter Tryz.func35, Tryz.ntmps35
    go_wp2_with fail
    go_quiet (first | (go_at_call 47; exact Calls.quiet_of_same (HH.out _)))
    obtain ⟨W1, hW1⟩ : ∃ W1, W1 = W.drewN nq := ⟨_, rfl⟩
    have HS1 : Hid (Stp W b sb s k W1) := by rw [hW1]; exact (Stp.refl HR0.out).drewN nq
    rw [← hW1]
    clear hW1 c0 c1 HH HR0
    go_wp2_with fail
    go_loopw [] (fun wr => ∃ p : Nat, k ≤ p ∧ p ≤ s.size ∧ Hid ((s.data.toList.drop k).dropWhile notNl = (s.data.toList.drop p).dropWhile notNl) ∧ Hid (Stp W b sb s p wr)) (fun wr => s.size + 2 - posOf wr b)
    case atStart => exact ⟨k, Nat.le_refl _, hk, rfl, HS1.out⟩
    case round =>
      obtain ⟨p, hkp, hp, HDW, HS⟩ := hrel
      clear HS1
      have HPO : Hid (posOf wr b = p) := HS.out.at_.pos
      have HEA : Hid _ := endsAt_any HS.out.at_ [10]
      by_cases hlt : p < s.size
      · rw [text_at s p hlt] at HEA
        cases hb : notNl s[p] with
        | true =>
          have HN : Hid ((s.data.toList.drop k).dropWhile notNl = (s.data.toList.drop (p + 1)).dropWhile notNl) := by unfold Hid; rw [HDW.out, dw_more s p hlt hb]
          rw [show endQ [10] (some s[p]) = false by
            unfold notNl at hb
            have : s[p] ≠ 10 := by simpa using hb
            simpa [endQ] using this] at HEA
          clear hb HDW
          go_wp2_with fail
          refine Calls.mono HEA.out ?_
          rintro e w2 ⟨rfl, m2, hw2⟩
          have HS2 : Hid (Stp W b sb s p w2) := by rw [hw2]; exact HS.out.drewN m2
          have d1 := HS2.out.at_.c1
          have e1 := HS2.out.at_.f1
          clear hw2 HEA HS
          go_wp2_with fail
          have HS5 := set_step HS2.out ((p : Int) + 1) (p + 1) (by omega)
          refine ⟨⟨p + 1, by omega, by omega, HN.out, HS5⟩, ?_⟩
          rw [HS5.at_.pos, HPO.out]
          omega
        | false =>
          have HN : Hid ((s.data.toList.drop k).dropWhile notNl = s.data.toList.drop p) := by unfold Hid; rw [HDW.out, dw_stop s p (fun _ => hb)]
          rw [show endQ [10] (some s[p]) = true by
            unfold notNl at hb
            have : s[p] = 10 := by simpa using hb
            simp [endQ, this]] at HEA
          clear hb HDW HPO
          go_wp2_with fail
          refine Calls.mono HEA.out ?_
          rintro e w2 ⟨rfl, m2, hw2⟩
          have HS2 : Hid (Stp W b sb s p w2) := by rw [hw2]; exact HS.out.drewN m2
          clear hw2 HEA HS
          go_wp2_with fail
          go_end0
          refine ⟨rfl, p, HS2.out, hkp, hp, ?_⟩
          rw [HO.out, if_pos trivial]
          exact HN.out
      · rw [at_none s p hlt] at HEA
        have HN : Hid ((s.data.toList.drop k).dropWhile notNl = s.data.toList.drop p) := by unfold Hid; rw [HDW.out, dw_stop s p (fun h => absurd h hlt)]
        clear HDW HPO
        go_wp2_with fail
        refine Calls.mono HEA.out ?_
        rintro e w2 ⟨rfl, m2, hw2⟩
        have HS2 : Hid (Stp W b sb s p w2) := by rw [hw2]; exact HS.out.drewN m2
        clear hw2 HEA HS
        go_wp2_with fail
        go_end0
        refine ⟨rfl, p, HS2.out, hkp, hp, ?_⟩
        rw [HO.out, if_pos trivial]
        exact HN.out
end Go.Proofs.YtlihkblllakhmaaGreatDoor
