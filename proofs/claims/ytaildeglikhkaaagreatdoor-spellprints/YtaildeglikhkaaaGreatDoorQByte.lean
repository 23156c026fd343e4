/- A byte between quotes, read. -/
import Derived.Test.YtaildeglikhkaaaGreatDoorHex
namespace Go.Proofs.YtaildeglikhkaaaGreatDoor
open Go.RowKit
attribute [local go_sem] Oper.semAt_some

/-- A byte between quotes, and where the reader stands behind it. -/
def qbR (s : ByteArray) (k : Nat) : Option Nat × Nat := match s.data.toList[k]? with
  | none => (none, k)
  | some c => if c = 92 then escR s (k + 1) else if escB ((c.toNat : Nat) : Int) then (none, k) else (some c.toNat, k + 1)
theorem escR_le (s : ByteArray) (k : Nat) (h : k ≤ s.size) : (escR s k).2 ≤ s.size := by
  unfold escR
  cases h1 : hexAt s k with
  | none => exact h
  | some v =>
    have := (hexAt_lt s k v h1).2
    simp only
    split
    · cases h2 : hexAt s (k + 1) with
      | none => exact this
      | some u =>
        have := (hexAt_lt s (k + 1) u h2).2
        simp only
        split <;> simp only <;> omega
    · exact h
theorem qbR_le (s : ByteArray) (k : Nat) (h : k ≤ s.size) : (qbR s k).2 ≤ s.size := by
  unfold qbR
  cases hc : s.data.toList[k]? with
  | none => exact h
  | some c =>
    have hk : k < s.size := by simpa using (List.getElem?_eq_some_iff.1 hc).1
    simp only
    split
    · exact escR_le s (k + 1) hk
    · split
      · exact h
      · exact hk
set_option maxHeartbeats 1000000 in
theorem qbyte_esc {W : World} {b : Nat} {t : TypeId} {s : ByteArray} {k : Nat} {r : List Value} (h : PlC W b t s k r) (hs : s.size < 4611686018427387904) (hc : s.data.toList[k]? = some 92) :
    Calls Tryz.prog 53 #[.pointer (some ⟨b, 0, none⟩)] W fun e w' => e = .returned (.tuple (byteR (qbR s k).1)) ∧ Gone W b t s (qbR s k).2 r w' := by
  have hk : k < s.size := by simpa using (List.getElem?_eq_some_iff.1 hc).1
  have HR : Hid (qbR s k = escR s (k + 1)) := by unfold Hid qbR; rw [hc]; simp only [if_true]
  have HT : Hid (Calls Tryz.prog 52 #[.pointer (some ⟨b, 0, none⟩), .int .u8 92] W fun e w' => e = .returned (.bool true) ∧ w' = W.setCell ⟨b, 1, none⟩ (.int .i64 (k + 1 : Nat))) := take_yes h.at 92 hs hc
  have HG : Hid (Gone W b t s (k + 1) r (W.setCell ⟨b, 1, none⟩ (.int .i64 (k + 1 : Nat)))) := (Gone.refl h).set (k + 1)
  have HE : Hid (∀ W', PlC W' b t s (k + 1) r → Calls Tryz.prog 75 #[.pointer (some ⟨b, 0, none⟩)] W' fun e w' => e = .returned (.tuple (byteR (escR s (k + 1)).1)) ∧ Gone W' b t s (escR s (k + 1)).2 r w') := fun W' h' => escape_any h' hs hk
  rw [HR.out]
  clear h hc HR
  obtain ⟨o, ho⟩ : ∃ o, (escR s (k + 1)).1 = o := ⟨_, rfl⟩
  obtain ⟨j, hj⟩ : ∃ j, (escR s (k + 1)).2 = j := ⟨_, rfl⟩
  rw [ho, hj] at HE ⊢
  clear ho hj
  cases o with
  | none =>
    rw [byteR_none] at HE ⊢
    go_enter Tryz.func53, Tryz.ntmps53
    go_wp2_with fail
    refine Calls.mono HT.out ?_
    rintro e w1 ⟨rfl, rfl⟩
    go_wp2_with fail
    refine Calls.mono (HE.out _ HG.out.at_) ?_
    rintro e w2 ⟨rfl, hg⟩
    have hg2 := HG.out.trans hg
    clear hg
    go_wp2_with fail
    go_ret2
    exact ⟨rfl, hg2⟩
  | some v =>
    rw [byteR_some] at HE ⊢
    go_enter Tryz.func53, Tryz.ntmps53
    go_wp2_with fail
    refine Calls.mono HT.out ?_
    rintro e w1 ⟨rfl, rfl⟩
    go_wp2_with fail
    refine Calls.mono (HE.out _ HG.out.at_) ?_
    rintro e w2 ⟨rfl, hg⟩
    have hg2 := HG.out.trans hg
    clear hg
    go_wp2_with fail
    go_ret2
    exact ⟨rfl, hg2⟩
set_option maxHeartbeats 1000000 in
theorem qbyte_end {W : World} {b : Nat} {t : TypeId} {s : ByteArray} {k : Nat} {r : List Value} (h : PlC W b t s k r) (hs : s.size < 4611686018427387904) (hk : k = s.size) :
    Calls Tryz.prog 53 #[.pointer (some ⟨b, 0, none⟩)] W fun e w' => e = .returned (.tuple (byteR (qbR s k).1)) ∧ Gone W b t s (qbR s k).2 r w' := by
  have hc : s.data.toList[k]? = none := List.getElem?_eq_none (by simp; omega)
  have HR : Hid (qbR s k = (none, k)) := by unfold Hid qbR; rw [hc]
  have HT : Hid (Calls Tryz.prog 52 #[.pointer (some ⟨b, 0, none⟩), .int .u8 92] W fun e w' => e = .returned (.bool false) ∧ w' = W) := take_no h.at 92 hs (by omega) (by rw [hc]; simp)
  have HG : Hid (∀ m, Gone W b t s k r (W.drewN m)) := fun m => (Gone.refl h).drewN m
  have c0 := h.at.text
  have c1 := h.at.pos
  rw [HR.out, byteR_none]
  clear h hc HR
  subst hk
  go_enter Tryz.func53, Tryz.ntmps53
  go_wp2_with fail
  refine Calls.mono HT.out ?_
  rintro e w1 ⟨rfl, hw⟩
  have hw' := hw.symm
  subst hw'
  clear hw HT
  go_wp2_with fail
  go_quiet (fail)
  go_wp2_with fail
  go_ret2
  exact ⟨rfl, HG.out _⟩
set_option maxHeartbeats 2000000 in
theorem qbyte_bad {W : World} {b : Nat} {t : TypeId} {s : ByteArray} {k : Nat} {r : List Value} (h : PlC W b t s k r) (hs : s.size < 4611686018427387904) (hk : k < s.size) (c : UInt8) (hc : s[k] = c) (h92 : c ≠ 92) (he : escB ((c.toNat : Nat) : Int) = true) :
    Calls Tryz.prog 53 #[.pointer (some ⟨b, 0, none⟩)] W fun e w' => e = .returned (.tuple (byteR (qbR s k).1)) ∧ Gone W b t s (qbR s k).2 r w' := by
  have hct : s.data.toList[k]? = some c := by rw [text_at s k hk, hc]
  have HR : Hid (qbR s k = (none, k)) := by unfold Hid qbR; rw [hct]; simp only [h92, he, if_true, if_false]
  have HT : Hid (Calls Tryz.prog 52 #[.pointer (some ⟨b, 0, none⟩), .int .u8 92] W fun e w' => e = .returned (.bool false) ∧ w' = W) := take_no h.at 92 hs (by omega) (by rw [hct]; simpa using h92)
  have HE : Hid (∀ w, Calls Tryz.prog 33 #[.int .u8 ((c.toNat : Nat) : Int)] w fun e w' => e = .returned (.bool true) ∧ w' = w) := fun w => by have := escaped_any ((c.toNat : Nat) : Int) w; rw [he] at this; exact this
  have HG : Hid (∀ m, Gone W b t s k r (W.drewN m)) := fun m => (Gone.refl h).drewN m
  have c0 := h.at.text
  have c1 := h.at.pos
  have hne : ((k : Int) == (s.size : Int)) = false := by simp; omega
  rw [HR.out, byteR_none]
  clear h hct HR he h92
  go_enter Tryz.func53, Tryz.ntmps53
  go_wp2_with fail
  refine Calls.mono HT.out ?_
  rintro e w1 ⟨rfl, hw⟩
  have hw' := hw.symm
  subst hw'
  clear hw HT
  go_wp2_with fail
  go_quiet (first | (go_at_call 33; exact Calls.quiet_of_same (HE.out _)))
  go_wp2_with fail
  go_ret2
  exact ⟨rfl, HG.out _⟩
set_option maxHeartbeats 2000000 in
theorem qbyte_yes {W : World} {b : Nat} {t : TypeId} {s : ByteArray} {k : Nat} {r : List Value} (h : PlC W b t s k r) (hs : s.size < 4611686018427387904) (hk : k < s.size) (c : UInt8) (hc : s[k] = c) (h92 : c ≠ 92) (he : escB ((c.toNat : Nat) : Int) = false) :
    Calls Tryz.prog 53 #[.pointer (some ⟨b, 0, none⟩)] W fun e w' => e = .returned (.tuple (byteR (qbR s k).1)) ∧ Gone W b t s (qbR s k).2 r w' := by
  have hct : s.data.toList[k]? = some c := by rw [text_at s k hk, hc]
  have HR : Hid (qbR s k = (some c.toNat, k + 1)) := by unfold Hid qbR; rw [hct]; simp only [h92, he, if_false, Bool.false_eq_true]
  have HT : Hid (Calls Tryz.prog 52 #[.pointer (some ⟨b, 0, none⟩), .int .u8 92] W fun e w' => e = .returned (.bool false) ∧ w' = W) := take_no h.at 92 hs (by omega) (by rw [hct]; simpa using h92)
  have HE : Hid (∀ w, Calls Tryz.prog 33 #[.int .u8 ((c.toNat : Nat) : Int)] w fun e w' => e = .returned (.bool false) ∧ w' = w) := fun w => by have := escaped_any ((c.toNat : Nat) : Int) w; rw [he] at this; exact this
  have HG : Hid (∀ m, Gone W b t s k r (W.drewN m)) := fun m => (Gone.refl h).drewN m
  have c0 := h.at.text
  have c1 := h.at.pos
  have f1 := h.at.free
  have hne : ((k : Int) == (s.size : Int)) = false := by simp; omega
  rw [HR.out, byteR_some]
  clear h hct HR he h92
  go_enter Tryz.func53, Tryz.ntmps53
  go_wp2_with fail
  refine Calls.mono HT.out ?_
  rintro e w1 ⟨rfl, hw⟩
  have hw' := hw.symm
  subst hw'
  clear hw HT
  go_wp2_with fail
  go_quiet (first | (go_at_call 33; exact Calls.quiet_of_same (HE.out _)))
  obtain ⟨W1, hW1⟩ : ∃ W1, W1 = W.drewN nq := ⟨_, rfl⟩
  have HG1 : Gone W b t s k r W1 := by rw [hW1]; exact HG.out _
  rw [← hW1]
  clear hW1 c0 c1 f1 HG
  have d1 := HG1.at_.at.pos
  have f1 := HG1.at_.at.free
  have HG2 : Hid (Gone W b t s (k + 1) r (W1.setCell ⟨b, 1, none⟩ (.int .i64 ((k : Int) + 1)))) := by
    have e1 : ((k + 1 : Nat) : Int) = (k : Int) + 1 := by simp
    rw [← e1]; exact HG1.set (k + 1)
  clear HG1
  go_wp2_with fail
  obtain ⟨W2, hW2⟩ : ∃ W2, W2 = W1.setCell ⟨b, 1, none⟩ (.int .i64 ((k : Int) + 1)) := ⟨_, rfl⟩
  rw [← hW2] at HG2 ⊢
  clear hW2 d1 f1
  have HG3 : Hid (∀ m, Gone W b t s (k + 1) r (W2.drewN m)) := fun m => HG2.out.drewN m
  have g0 := HG2.out.at_.at.text
  have g1 := HG2.out.at_.at.pos
  clear HG2
  go_quiet (fail)
  go_wp2_with fail
  go_ret2
  exact ⟨rfl, HG3.out _⟩
theorem qbyte_any {W : World} {b : Nat} {t : TypeId} {s : ByteArray} {k : Nat} {r : List Value} (h : PlC W b t s k r) (hs : s.size < 4611686018427387904) (hk : k ≤ s.size) :
    Calls Tryz.prog 53 #[.pointer (some ⟨b, 0, none⟩)] W fun e w' => e = .returned (.tuple (byteR (qbR s k).1)) ∧ Gone W b t s (qbR s k).2 r w' := by
  by_cases hlt : k < s.size
  · by_cases h92 : s[k] = 92
    · exact qbyte_esc h hs (by rw [text_at s k hlt, h92])
    · cases he : escB ((s[k].toNat : Nat) : Int) with
      | true => exact qbyte_bad h hs hlt _ rfl h92 he
      | false => exact qbyte_yes h hs hlt _ rfl h92 he
  · exact qbyte_end h hs (by omega)
end Go.Proofs.YtaildeglikhkaaaGreatDoor
