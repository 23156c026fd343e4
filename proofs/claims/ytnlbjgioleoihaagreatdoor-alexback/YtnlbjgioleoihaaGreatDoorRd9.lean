/- Bytes between double quotes. -/
import Derived.Test.YtnlbjgioleoihaaGreatDoorRd8
import Derived.Test.YtnlbjgioleoihaaGreatDoorBuild
namespace Go.Proofs.YtnlbjgioleoihaaGreatDoor
open Go.RowKit
attribute [local go_sem] Oper.semAt_some

theorem Bld.turn {X Y : World} {B bb b : Nat} {l : List UInt8} (h : Bld X B bb l) (hT : Turn (fun i => i = b) X Y) (hb : b < B) : Bld Y B bb l := by
  obtain ⟨hB, p, v, hp, hc, ho⟩ := h
  refine ⟨hB, p, v, hp, hc.turn hT (by omega), owns_turn ho hT fun g hg => ?_⟩
  rcases ho.2 with ⟨rfl, _⟩ | ⟨g', cap, cur, rfl, hb', _⟩
  · simp [Value.ownBlock] at hg
  · obtain rfl : g' = g := by simpa [Value.ownBlock] using hg
    omega
theorem Stp.under {W w w' : World} {b sb k : Nat} {s : ByteArray} (h : Stp W b sb s k w) (hb : b < W.heap.size) (hsb : sb < W.heap.size) (hB : Below W.heap.size w w') : Stp W b sb s k w' :=
  ⟨⟨h.at_.rd.below hB hb, h.at_.src.below hB hsb⟩, ⟨hB.os.trans h.turn.os, hB.tape.trans h.turn.tape, hB.output.trans h.turn.output, Nat.le_trans h.turn.size hB.size, fun i hi hne => (hB.block i hi).trans (h.turn.block i hi hne)⟩⟩
theorem len_drop' (s : ByteArray) (k : Nat) : (s.data.toList.drop k).length = s.size - k := by rw [List.length_drop]; simp
theorem dead_nil (f : Nat) : dead f [] = ([], []) := by cases f <;> rfl
theorem dead_stop (f : Nat) (c : UInt8) (t : List UInt8) (h : c = 34 ∨ dolB (c :: t) = true) : dead f (c :: t) = ([], c :: t) := by
  cases f with
  | zero => rfl
  | succ f => rw [dead, if_pos h]
theorem dead_more (f : Nat) (c : UInt8) (t : List UInt8) (h : ¬ (c = 34 ∨ dolB (c :: t) = true)) : dead (f + 1) (c :: t) = ((dByte (c :: t)).1 ++ (dead f ((c :: t).drop (dByte (c :: t)).2)).1, (dead f ((c :: t).drop (dByte (c :: t)).2)).2) := by rw [dead, if_neg h]
theorem dByte_len (l : List UInt8) : (dByte l).1.length ≤ (dByte l).2 ∧ (l ≠ [] → 1 ≤ (dByte l).2) ∧ (dByte l).2 ≤ l.length := by
  unfold dByte
  cases l with
  | nil => simp
  | cons c t =>
    simp only
    split
    · cases t with
      | nil => simp
      | cons d t =>
        simp only
        split <;> simp
    · simp
set_option maxRecDepth 100000 in
set_option maxHeartbeats 4000000 in
theorem dead_any {W : World} {b sb k f : Nat} {s : ByteArray} (h : Rd W b sb s k) (hs : s.size < 1099511627776) (hk : k ≤ s.size) (hf : s.size - k ≤ f) :
    Calls Tryz.prog 56 #[.pointer (some ⟨b, 0, none⟩)] W fun e w' => e = .returned (str (dead f (s.data.toList.drop k)).1) ∧ ∃ j, Stp W b sb s j w' ∧ k ≤ j ∧ j ≤ s.size ∧ (dead f (s.data.toList.drop k)).2 = s.data.toList.drop j := by
  have hlb := h.rd.lt
  have hlsb := h.src.lt
  obtain ⟨W0, hW0⟩ : ∃ W0, W0 = W.alloc (.cells #[.pointer none, .slice none 0 0] 53) := ⟨_, rfl⟩
  have HS0 : Hid (Stp W b sb s k W0) := by rw [hW0]; exact (Stp.refl h).alloc _
  have HB0 : Hid (Bld W0 W.heap.size W.heap.size []) := by
    rw [hW0]
    exact ⟨Nat.le_refl _, _, _, .inl rfl, Cel.new W _ _, World.ownsRow_nil _ _ _ _⟩
  have HW0 : Hid (W.alloc (.cells #[.pointer none, .slice none 0 0] 53) = W0) := hW0.symm
  obtain ⟨R, HR⟩ : ∃ R, Hid (dead f (s.data.toList.drop k) = R) := ⟨_, rfl⟩
  rw [HR.out]
  clear h hW0
  go_enter Tryz.func56, Tryz.ntmps56
  go_wp2_with fail
  rw [HW0.out]
  go_loopw [] (fun wr => ∃ (p g : Nat) (acc : List UInt8), k ≤ p ∧ p ≤ s.size ∧ s.size - p ≤ g ∧ acc.length ≤ p ∧ Hid (R = (acc ++ (dead g (s.data.toList.drop p)).1, (dead g (s.data.toList.drop p)).2)) ∧ Hid (Stp W b sb s p wr) ∧ Hid (Bld wr W.heap.size W.heap.size acc)) (fun wr => s.size + 2 - posOf wr b)
  case atStart => exact ⟨k, f, [], Nat.le_refl _, hk, hf, by simp, by unfold Hid; rw [← HR.out]; rfl, HS0.out, HB0.out⟩
  case round =>
    obtain ⟨p, g, acc, hkp, hp, hg, hacc, HE, HS, HB⟩ := hrel
    clear HS0 HB0 HW0 HR
    have HPO : Hid (posOf wr b = p) := HS.out.at_.pos
    have c0 := HS.out.at_.c0
    have c1 := HS.out.at_.c1
    have HEN : Hid (∀ m, Calls Tryz.prog 30 #[.pointer (some ⟨b, 0, none⟩)] (wr.drewN m) fun e w' => e = .returned (.bool (decide (s.size ≤ p))) ∧ ∃ n, w' = (wr.drewN m).drewN n) := fun m => ended_any (HS.out.drewN m).at_
    have HH : Hid (∀ m, Calls Tryz.prog 29 #[.pointer (some ⟨sb, 0, none⟩), .int .i64 (p : Nat), .string ⟨#[34]⟩] (wr.drewN m) fun e w' => e = .returned (.bool (s.data.toList[p]? == some 34)) ∧ w' = wr.drewN m) := fun m => hasb_any sb s 34 p (wr.drewN m) HS.out.at_.t0
    have HDO : Hid (∀ m, Calls Tryz.prog 45 #[.pointer (some ⟨b, 0, none⟩), .int .i64 (p : Nat)] (wr.drewN m) fun e w' => e = .returned (.bool (dolB (s.data.toList.drop p))) ∧ w' = wr.drewN m) := fun m => dollarAt_any (HS.out.drewN m).at_ p (by omega) (by omega)
    have HST : Hid (∀ m, Calls Tryz.prog 16 #[.pointer (some ⟨W.heap.size, 0, none⟩)] (wr.drewN m) fun e w' => e = .returned (.string ⟨acc.toArray⟩) ∧ Stp W b sb s p w') := fun m => by
      refine (string_bld W.heap.size W.heap.size acc (wr.drewN m) HB.out (Nat.le_trans (Nat.le_refl _) HS.out.turn.size)).mono ?_
      rintro e w' ⟨rfl, hb, _⟩
      exact ⟨rfl, (HS.out.drewN m).under hlb hlsb hb⟩
    by_cases hle : s.size ≤ p
    · have HEQ : Hid (R = (acc, s.data.toList.drop p)) := by unfold Hid; rw [HE.out, drop_none s p (by omega), dead_nil, List.append_nil]
      rw [decide_eq_true hle] at HEN
      clear HE
      go_wp2_with fail
      go_quiet (first | (go_at_call 30; exact Calls.quiet_of (HEN.out _)))
      go_wp2_with fail
      refine Calls.mono (HST.out _) ?_
      rintro e w1 ⟨rfl, hS1⟩
      have HS1 : Hid (Stp W b sb s p w1) := hS1
      clear hS1
      go_wp2_with fail
      go_ret
      rw [HEQ.out]
      exact ⟨rfl, p, HS1.out, hkp, hp, rfl⟩
    · have hlt : p < s.size := by omega
      have HC : Hid _ := drop_cons s p hlt
      rw [decide_eq_false hle] at HEN
      rw [text_at s p hlt] at HH
      clear hle
      by_cases h34 : s[p] = 34
      · have HEQ : Hid (R = (acc, s.data.toList.drop p)) := by unfold Hid; rw [HE.out, HC.out, dead_stop g _ _ (.inl h34), List.append_nil]
        rw [h34, beq_self_eq_true] at HH
        clear HE h34 HC
        go_wp2_with fail
        go_quiet (first | (go_at_call 30; exact Calls.quiet_of (HEN.out _)) | (go_at_call 29; exact Calls.quiet_of_same (HH.out _)))
        go_wp2_with fail
        refine Calls.mono (HST.out _) ?_
        rintro e w1 ⟨rfl, hS1⟩
        have HS1 : Hid (Stp W b sb s p w1) := hS1
        clear hS1
        go_wp2_with fail
        go_ret
        rw [HEQ.out]
        exact ⟨rfl, p, HS1.out, hkp, hp, rfl⟩
      · have HH2 : Hid (∀ m, Calls Tryz.prog 29 #[.pointer (some ⟨sb, 0, none⟩), .int .i64 (p : Nat), .string ⟨#[34]⟩] (wr.drewN m) fun e w' => e = .returned (.bool false) ∧ w' = wr.drewN m) := fun m => by
          have := HH.out m
          rw [show (some s[p] == some (34 : UInt8)) = false by simpa using h34] at this
          exact this
        clear HH
        cases hd : dolB (s.data.toList.drop p) with
        | true =>
          have HEQ : Hid (R = (acc, s.data.toList.drop p)) := by
            unfold Hid
            rw [HE.out]
            rw [HC.out] at hd ⊢
            rw [dead_stop g _ _ (.inr hd), List.append_nil]
          rw [hd] at HDO
          clear HE h34 HC hd
          go_wp2_with fail
          go_quiet (first | (go_at_call 30; exact Calls.quiet_of (HEN.out _)) | (go_at_call 29; exact Calls.quiet_of_same (HH2.out _)) | (go_at_call 45; exact Calls.quiet_of_same (HDO.out _)))
          go_wp2_with fail
          refine Calls.mono (HST.out _) ?_
          rintro e w1 ⟨rfl, hS1⟩
          have HS1 : Hid (Stp W b sb s p w1) := hS1
          clear hS1
          go_wp2_with fail
          go_ret
          rw [HEQ.out]
          exact ⟨rfl, p, HS1.out, hkp, hp, rfl⟩
        | false =>
          obtain ⟨g', rfl⟩ : ∃ g', g = g' + 1 := ⟨g - 1, by omega⟩
          have hlen := dByte_len (s.data.toList.drop p)
          have hne : s.data.toList.drop p ≠ [] := by rw [HC.out]; simp
          have hln := len_drop' s p
          have HEQ : Hid (R = ((acc ++ (dByte (s.data.toList.drop p)).1) ++ (dead g' (s.data.toList.drop (p + (dByte (s.data.toList.drop p)).2))).1, (dead g' (s.data.toList.drop (p + (dByte (s.data.toList.drop p)).2))).2)) := by
            unfold Hid
            rw [HE.out, ← List.drop_drop]
            rw [HC.out] at hd ⊢
            rw [dead_more g' _ _ (fun e => e.elim h34 (fun e => by rw [hd] at e; cases e)), List.append_assoc]
          have h1 := hlen.2.1 hne
          have h2 := hlen.1
          have h3 := hlen.2.2
          rw [hln] at h3
          rw [hd] at HDO
          have HDB : Hid (∀ m, Calls Tryz.prog 68 #[.pointer (some ⟨b, 0, none⟩)] (wr.drewN m) fun e w' => e = .returned (str (dByte (s.data.toList.drop p)).1) ∧ Stp (wr.drewN m) b sb s (p + (dByte (s.data.toList.drop p)).2) w') := fun m => deadByte_any (HS.out.drewN m).at_ (by omega) hlt
          generalize (dByte (s.data.toList.drop p)).1 = tx at *
          generalize (dByte (s.data.toList.drop p)).2 = dn at *
          clear HE h34 HC hd hlen hne hln
          go_wp2_with fail
          go_quiet (first | (go_at_call 30; exact Calls.quiet_of (HEN.out _)) | (go_at_call 29; exact Calls.quiet_of_same (HH2.out _)) | (go_at_call 45; exact Calls.quiet_of_same (HDO.out _)))
          go_wp2_with fail
          refine Calls.mono (HDB.out _) ?_
          rintro e w1 ⟨rfl, hS1⟩
          have HS1 : Hid (Stp W b sb s (p + dn) w1) := (HS.out.drewN _).trans hS1
          have HB1 : Hid (Bld w1 W.heap.size W.heap.size acc) := Bld.turn (X := wr.drewN nq) HB.out hS1.turn hlb
          clear hS1 HDB HEN HH2 HDO HST
          go_wp2_with fail
          refine (writeString_bld W.heap.size W.heap.size acc ⟨tx.toArray⟩ w1 HB1.out (by show _ + tx.length < _; omega) HS1.out.turn.size).mono ?_
          rintro e w2 ⟨rfl, hB2, hk2⟩
          have HS2 : Hid (Stp W b sb s (p + dn) w2) := HS1.out.under hlb hlsb hk2.1
          have HB2 : Hid (Bld w2 W.heap.size W.heap.size (acc ++ tx)) := hB2
          clear hB2 hk2 HS1 HB1
          go_wp2_with fail
          refine ⟨⟨p + dn, g', acc ++ tx, by omega, by omega, by omega, by rw [List.length_append]; omega, HEQ.out, HS2.out, HB2.out⟩, ?_⟩
          rw [HS2.out.at_.pos, HPO.out]
          omega
end Go.Proofs.YtnlbjgioleoihaaGreatDoor
