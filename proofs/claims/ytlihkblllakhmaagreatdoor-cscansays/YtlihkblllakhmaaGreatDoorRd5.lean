/- Whether a dollar's part begins; one byte of a plain part. -/
import Derived.Test.YtlihkblllakhmaaGreatDoorRdA
namespace Go.Proofs.YtlihkblllakhmaaGreatDoor
open Go.RowKit
attribute [local go_sem] Oper.semAt_some

theorem dolB_drop (s : ByteArray) (i : Nat) : dolB (s.data.toList.drop i) = ((s.data.toList[i]? == some 36) && (match s.data.toList[i + 1]? with | none => false | some c => dolC c)) := by
  by_cases h : i < s.size
  · rw [drop_cons s i h, text_at s i h]
    by_cases h2 : i + 1 < s.size
    · rw [drop_cons s (i + 1) h2, text_at s (i + 1) h2]
      rfl
    · rw [List.drop_eq_nil_of_le (by simp; omega), List.getElem?_eq_none (by simp; omega)]
      simp [dolB]
  · rw [List.drop_eq_nil_of_le (by simp; omega), List.getElem?_eq_none (by simp; omega)]
    rfl
theorem nrun_is (s : ByteArray) (i : Nat) (h : i < s.size) : (nrun (s.data.toList.drop i) == []) = !(start8 s[i]) := by
  rw [drop_cons s i h, nrun]
  cases hs : start8 s[i] with
  | false => rfl
  | true =>
    have hc : cont8 s[i] = true := by unfold cont8 contB; rw [show startB (s[i].toNat : Int) = true from hs]; rfl
    simp [hc]
/-- Only draws were made. -/
def Dr (W W' : World) : Prop := ∃ m, W' = W.drewN m
theorem Dr.refl (W : World) : Dr W W := ⟨0, rfl⟩
theorem Dr.drewN {W W' : World} (h : Dr W W') (n : Nat) : Dr W (W'.drewN n) := by
  obtain ⟨m, rfl⟩ := h
  exact ⟨m + n, World.drewN_drewN _ _ _⟩
theorem Dr.stp {W W1 W2 : World} {b sb k : Nat} {s : ByteArray} (h : Stp W b sb s k W1) (hd : Dr W1 W2) : Stp W b sb s k W2 := by
  obtain ⟨m, rfl⟩ := hd
  exact h.drewN m
set_option maxRecDepth 100000 in
set_option maxHeartbeats 2000000 in
theorem dollarHere_any {W : World} {b sb k : Nat} {s : ByteArray} (h : Rd W b sb s k) (hs : s.size < 1099511627776) (hk : k ≤ s.size + 2) :
    Calls Tryz.prog 90 #[.pointer (some ⟨b, 0, none⟩)] W fun e w' => e = .returned (.bool (dolB (s.data.toList.drop k))) ∧ Dr W w' := by
  have HCC : Hid (∀ w, Dr W w → w.cell? ⟨b, 0, none⟩ = some (.pointer (some ⟨sb, 0, none⟩)) ∧ w.cell? ⟨b, 1, none⟩ = some (.int .i64 (k : Nat))) := fun w hw => by
    obtain ⟨m, rfl⟩ := hw
    exact ⟨h.c0, h.c1⟩
  have ht : ∀ w, Dr W w → w.cell? ⟨sb, 0, none⟩ = some (.string s) := fun w hw => by
    obtain ⟨m, rfl⟩ := hw
    exact h.t0
  have HH : Hid (∀ w, Dr W w → Calls Tryz.prog 47 #[.pointer (some ⟨sb, 0, none⟩), .int .i64 (k : Nat), .string ⟨#[36]⟩] w fun e w' => e = .returned (.bool (s.data.toList[k]? == some 36)) ∧ w' = w) := fun w hw => hasb_any sb s 36 k w (ht w hw)
  have HB : Hid (∀ w, Dr W w → Calls Tryz.prog 48 #[.pointer (some ⟨sb, 0, none⟩), .int .i64 ((k : Int) + 1)] w fun e w' => e = .returned (.tuple (byteV s.data.toList[k + 1]?)) ∧ w' = w) := fun w hw => byte_any sb s (k + 1) w (ht w hw)
  have HN : Hid (∀ w, Dr W w → Calls Tryz.prog 104 #[.pointer (some ⟨sb, 0, none⟩), .int .i64 ((k : Int) + 1)] w fun e w' => e = .returned (.string ⟨(nrun (s.data.toList.drop (k + 1))).toArray⟩) ∧ w' = w) := fun w hw => sname_any sb s (k + 1) w (ht w hw) (by omega)
  have p0 := h.c0
  have r0 := h.c1
  clear h ht
  have HD : Hid _ := dolB_drop s k
  rw [HD.out]
  clear HD
  obtain ⟨W0, hW0⟩ : ∃ W0, W0 = W := ⟨_, rfl⟩
  have D0 : Hid (Dr W W0) := by rw [hW0]; exact Dr.refl W
  cases hd : (s.data.toList[k]? == some 36) with
  | false =>
    rw [hd] at HH
    rw [Bool.false_and]
    clear hd HB HN
    rw [← hW0] at p0 r0
    rw [show Calls Tryz.prog 90 #[.pointer (some ⟨b, 0, none⟩)] W = Calls Tryz.prog 90 #[.pointer (some ⟨b, 0, none⟩)] W0 by rw [hW0]]
    clear hW0
    go_enter Tryz.func90, Tryz.ntmps90
    go_wp2_with fail
    go_quiet (first | (go_at_call 47; exact Calls.quiet_of_same (HH.out _ (D0.out.drewN _))))
    obtain ⟨W1, hW1⟩ : ∃ W1, W1 = W0.drewN nq := ⟨_, rfl⟩
    have D1 : Hid (Dr W W1) := by rw [hW1]; exact D0.out.drewN nq
    rw [← hW1]
    clear hW1 p0 r0
    go_wp2_with fail
    go_ret
    exact ⟨rfl, D1.out⟩
  | true =>
    rw [hd] at HH
    rw [Bool.true_and]
    clear hd
    obtain ⟨c, hy, HBc, HNc⟩ : ∃ (c : UInt8) (hy : Bool), Hid (∀ w, Dr W w → Calls Tryz.prog 48 #[.pointer (some ⟨sb, 0, none⟩), .int .i64 ((k : Int) + 1)] w fun e w' => e = .returned (.tuple #[.int .u8 (c.toNat : Nat), .bool hy]) ∧ w' = w) ∧ Hid ((nrun (s.data.toList.drop (k + 1)) == []) = !(start8 c) ∧ (match s.data.toList[k + 1]? with | none => false | some c => dolC c) = dolC c) := by
      by_cases h2 : k + 1 < s.size
      · have e := nrun_is s (k + 1) h2
        rw [text_at s (k + 1) h2] at HB ⊢
        exact ⟨s[k + 1], true, HB, e, rfl⟩
      · rw [at_none s (k + 1) h2] at HB ⊢
        rw [drop_none s (k + 1) h2]
        exact ⟨0, false, HB, rfl, by decide⟩
    clear HB
    have HB := HBc
    rw [HNc.out.2]
    have hnr := HNc.out.1
    generalize nrun (s.data.toList.drop (k + 1)) = nm at HN hnr
    have HK : Hid (∀ w, Dr W w → Calls Tryz.prog 103 #[.int .u8 (c.toNat : Nat)] w fun e w' => e = .returned (.bool (cnts c)) ∧ w' = w) := fun w _ => by
      have := counts_any (c.toNat : Nat) w
      rw [cntB_byte] at this
      exact this
    have HDC : Hid (dolC c = (c == 42 || cnts c || start8 c)) := rfl
    rw [HDC.out]
    clear HBc HNc HDC
    rw [← hW0] at p0 r0
    rw [show Calls Tryz.prog 90 #[.pointer (some ⟨b, 0, none⟩)] W = Calls Tryz.prog 90 #[.pointer (some ⟨b, 0, none⟩)] W0 by rw [hW0]]
    clear hW0
    by_cases h42 : c = 42
    · subst h42
      have HR : Hid (((42 : UInt8) == 42 || cnts 42 || start8 42) = true) := rfl
      rw [HR.out]
      clear HN HK hnr HR
      go_enter Tryz.func90, Tryz.ntmps90
      go_wp2_with fail
      go_quiet (first | (go_at_call 47; exact Calls.quiet_of_same (HH.out _ (D0.out.drewN _))))
      obtain ⟨W1, hW1⟩ : ∃ W1, W1 = W0.drewN nq := ⟨_, rfl⟩
      have D1 : Hid (Dr W W1) := by rw [hW1]; exact D0.out.drewN nq
      have p1 := (HCC.out _ D1.out).1
      have r1 := (HCC.out _ D1.out).2
      rw [← hW1]
      clear hW1 p0 r0
      go_wp2_with fail
      go_quiet (first | (go_at_call 48; exact Calls.quiet_of_same (HB.out _ (D1.out.drewN _))))
      obtain ⟨W2, hW2⟩ : ∃ W2, W2 = W1.drewN nq := ⟨_, rfl⟩
      have D2 : Hid (Dr W W2) := by rw [hW2]; exact D1.out.drewN nq
      have p2 := (HCC.out _ D2.out).1
      have r2 := (HCC.out _ D2.out).2
      rw [← hW2]
      clear hW2 p1 r1
      go_wp2_with fail
      go_quiet (fail)
      obtain ⟨W3, hW3⟩ : ∃ W3, W3 = W2.drewN nq := ⟨_, rfl⟩
      have D3 : Hid (Dr W W3) := by rw [hW3]; exact D2.out.drewN nq
      rw [← hW3]
      clear hW3 p2 r2
      go_wp2_with fail
      go_ret
      exact ⟨rfl, D3.out⟩
    · have n42 : ((c.toNat : Int) == 42) = false := byte_ne c 42 h42
      rw [show (c == (42 : UInt8)) = false by simpa using h42, Bool.false_or]
      cases hct : cnts c with
      | true =>
        rw [hct] at HK
        rw [Bool.true_or]
        clear HN hnr h42 hct
        go_enter Tryz.func90, Tryz.ntmps90
        go_wp2_with fail
        go_quiet (first | (go_at_call 47; exact Calls.quiet_of_same (HH.out _ (D0.out.drewN _))))
        obtain ⟨W1, hW1⟩ : ∃ W1, W1 = W0.drewN nq := ⟨_, rfl⟩
        have D1 : Hid (Dr W W1) := by rw [hW1]; exact D0.out.drewN nq
        have p1 := (HCC.out _ D1.out).1
        have r1 := (HCC.out _ D1.out).2
        rw [← hW1]
        clear hW1 p0 r0
        go_wp2_with fail
        go_quiet (first | (go_at_call 48; exact Calls.quiet_of_same (HB.out _ (D1.out.drewN _))))
        obtain ⟨W2, hW2⟩ : ∃ W2, W2 = W1.drewN nq := ⟨_, rfl⟩
        have D2 : Hid (Dr W W2) := by rw [hW2]; exact D1.out.drewN nq
        have p2 := (HCC.out _ D2.out).1
        have r2 := (HCC.out _ D2.out).2
        rw [← hW2]
        clear hW2 p1 r1
        go_wp2_with fail
        go_quiet (first | (go_at_call 103; exact Calls.quiet_of_same (HK.out _ (D2.out.drewN _))))
        obtain ⟨W3, hW3⟩ : ∃ W3, W3 = W2.drewN nq := ⟨_, rfl⟩
        have D3 : Hid (Dr W W3) := by rw [hW3]; exact D2.out.drewN nq
        rw [← hW3]
        clear hW3 p2 r2
        go_wp2_with fail
        go_ret
        exact ⟨rfl, D3.out⟩
      | false =>
        rw [hct] at HK
        rw [Bool.false_or]
        clear h42 hct
        cases hst : start8 c with
        | true =>
          rw [hst] at hnr
          go_enter Tryz.func90, Tryz.ntmps90
          go_wp2_with fail
          go_quiet (first | (go_at_call 47; exact Calls.quiet_of_same (HH.out _ (D0.out.drewN _))))
          obtain ⟨W1, hW1⟩ : ∃ W1, W1 = W0.drewN nq := ⟨_, rfl⟩
          have D1 : Hid (Dr W W1) := by rw [hW1]; exact D0.out.drewN nq
          have p1 := (HCC.out _ D1.out).1
          have r1 := (HCC.out _ D1.out).2
          rw [← hW1]
          clear hW1 p0 r0
          go_wp2_with fail
          go_quiet (first | (go_at_call 48; exact Calls.quiet_of_same (HB.out _ (D1.out.drewN _))))
          obtain ⟨W2, hW2⟩ : ∃ W2, W2 = W1.drewN nq := ⟨_, rfl⟩
          have D2 : Hid (Dr W W2) := by rw [hW2]; exact D1.out.drewN nq
          have p2 := (HCC.out _ D2.out).1
          have r2 := (HCC.out _ D2.out).2
          rw [← hW2]
          clear hW2 p1 r1
          go_wp2_with fail
          go_quiet (first | (go_at_call 103; exact Calls.quiet_of_same (HK.out _ (D2.out.drewN _))) | (go_at_call 104; exact Calls.quiet_of_same (HN.out _ (D2.out.drewN _))))
          obtain ⟨W3, hW3⟩ : ∃ W3, W3 = W2.drewN nq := ⟨_, rfl⟩
          have D3 : Hid (Dr W W3) := by rw [hW3]; exact D2.out.drewN nq
          rw [← hW3]
          clear hW3 p2 r2
          go_wp2_with fail
          go_ret
          exact ⟨rfl, D3.out⟩
        | false =>
          rw [hst] at hnr
          go_enter Tryz.func90, Tryz.ntmps90
          go_wp2_with fail
          go_quiet (first | (go_at_call 47; exact Calls.quiet_of_same (HH.out _ (D0.out.drewN _))))
          obtain ⟨W1, hW1⟩ : ∃ W1, W1 = W0.drewN nq := ⟨_, rfl⟩
          have D1 : Hid (Dr W W1) := by rw [hW1]; exact D0.out.drewN nq
          have p1 := (HCC.out _ D1.out).1
          have r1 := (HCC.out _ D1.out).2
          rw [← hW1]
          clear hW1 p0 r0
          go_wp2_with fail
          go_quiet (first | (go_at_call 48; exact Calls.quiet_of_same (HB.out _ (D1.out.drewN _))))
          obtain ⟨W2, hW2⟩ : ∃ W2, W2 = W1.drewN nq := ⟨_, rfl⟩
          have D2 : Hid (Dr W W2) := by rw [hW2]; exact D1.out.drewN nq
          have p2 := (HCC.out _ D2.out).1
          have r2 := (HCC.out _ D2.out).2
          rw [← hW2]
          clear hW2 p1 r1
          go_wp2_with fail
          go_quiet (first | (go_at_call 103; exact Calls.quiet_of_same (HK.out _ (D2.out.drewN _))) | (go_at_call 104; exact Calls.quiet_of_same (HN.out _ (D2.out.drewN _))))
          obtain ⟨W3, hW3⟩ : ∃ W3, W3 = W2.drewN nq := ⟨_, rfl⟩
          have D3 : Hid (Dr W W3) := by rw [hW3]; exact D2.out.drewN nq
          rw [← hW3]
          clear hW3 p2 r2
          go_wp2_with fail
          go_ret
          exact ⟨rfl, D3.out⟩
end Go.Proofs.YtlihkblllakhmaaGreatDoor
