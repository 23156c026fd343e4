/- A number, read. -/
import Derived.Test.YtaildeglikhkaaaGreatDoorHex
import Derived.Test.YtaildeglikhkaaaGreatDoorParse
namespace Go.Proofs.YtaildeglikhkaaaGreatDoor
open Go.RowKit
attribute [local go_sem] Oper.semAt_some

/-- How many digits stand here, of so many at most. -/
def runN (s : ByteArray) : Nat → Nat → Nat
  | _, 0 => 0
  | q, f + 1 => if inB s q 48 57 then runN s (q + 1) f + 1 else 0
theorem inB_lt (s : ByteArray) (k : Nat) (lo hi : UInt8) (h : inB s k lo hi = true) : k < s.size := by
  unfold inB at h
  cases hc : s.data.toList[k]? with
  | none => rw [hc] at h; cases h
  | some c => simpa using (List.getElem?_eq_some_iff.1 hc).1
/-- The digits of a number whose first stands here. -/
def dgN (s : ByteArray) (p : Nat) : Nat := 1 + runN s (p + 1) 8
/-- A number, and where the reader stands behind it. -/
def nuR (s : ByteArray) (k : Nat) : Nat × Nat :=
  if inB s k 32 32 && inB s (k + 1) 49 57 then ((parseV ((s.data.toList.drop (k + 1)).take (dgN s (k + 1)))).getD 0, k + 1 + dgN s (k + 1)) else (0, k)
set_option maxHeartbeats 1000000 in
theorem number_no1 {W : World} {b : Nat} {t : TypeId} {s : ByteArray} {k : Nat} {r : List Value} (h : PlC W b t s k r) (hs : s.size < 8796093022208) (hk : k ≤ s.size) (h1 : inB s k 32 32 = false) :
    Calls Tryz.prog 95 #[.pointer (some ⟨b, 0, none⟩)] W fun e w' => e = .returned (.int .i64 ((nuR s k).1 : Nat)) ∧ Gone W b t s (nuR s k).2 r w' := by
  have HR : Hid (nuR s k = (0, k)) := by unfold Hid nuR; rw [h1]; rfl
  have HG : Hid (Gone W b t s k r W) := Gone.refl h
  have H1 : Hid (Calls Tryz.prog 74 #[.pointer (some ⟨b, 0, none⟩), .int .i64 0, .int .u8 32, .int .u8 32] W fun e w' => e = .returned (.bool false) ∧ w' = W) := by
    have := in_any h.at 0 32 32 (by omega) hk (by omega)
    rw [Nat.add_zero, h1] at this
    exact this
  rw [HR.out]
  clear h1 h
  go_enter Tryz.func95, Tryz.ntmps95
  go_wp2_with fail
  refine Calls.mono H1.out ?_
  rintro e w1 ⟨rfl, hw⟩
  have hw' := hw.symm
  subst hw'
  clear hw
  go_wp2_with fail
  go_ret
  exact ⟨rfl, HG.out⟩
set_option maxHeartbeats 1000000 in
theorem number_no2 {W : World} {b : Nat} {t : TypeId} {s : ByteArray} {k : Nat} {r : List Value} (h : PlC W b t s k r) (hs : s.size < 8796093022208) (hk : k ≤ s.size) (h1 : inB s k 32 32 = true) (h2 : inB s (k + 1) 49 57 = false) :
    Calls Tryz.prog 95 #[.pointer (some ⟨b, 0, none⟩)] W fun e w' => e = .returned (.int .i64 ((nuR s k).1 : Nat)) ∧ Gone W b t s (nuR s k).2 r w' := by
  have HR : Hid (nuR s k = (0, k)) := by unfold Hid nuR; rw [h1, h2]; rfl
  have HG : Hid (Gone W b t s k r W) := Gone.refl h
  have H1 : Hid (Calls Tryz.prog 74 #[.pointer (some ⟨b, 0, none⟩), .int .i64 0, .int .u8 32, .int .u8 32] W fun e w' => e = .returned (.bool true) ∧ w' = W) := by
    have := in_any h.at 0 32 32 (by omega) hk (by omega)
    rw [Nat.add_zero, h1] at this
    exact this
  have H2 : Hid (Calls Tryz.prog 74 #[.pointer (some ⟨b, 0, none⟩), .int .i64 1, .int .u8 49, .int .u8 57] W fun e w' => e = .returned (.bool false) ∧ w' = W) := by
    have := in_any h.at 1 49 57 (by omega) hk (by omega)
    rw [h2] at this
    exact this
  rw [HR.out]
  clear h1 h2 h
  go_enter Tryz.func95, Tryz.ntmps95
  go_wp2_with fail
  refine Calls.mono H1.out ?_
  rintro e w1 ⟨rfl, hw⟩
  have hw' := hw.symm
  subst hw'
  clear hw
  go_wp2_with fail
  refine Calls.mono H2.out ?_
  rintro e w1 ⟨rfl, hw⟩
  have hw' := hw.symm
  subst hw'
  clear hw
  go_wp2_with fail
  go_ret
  exact ⟨rfl, HG.out⟩
set_option maxHeartbeats 4000000 in
theorem number_yes {W : World} {b : Nat} {t : TypeId} {s : ByteArray} {k : Nat} {r : List Value} (h : PlC W b t s k r) (hs : s.size < 8796093022208) (h1 : inB s k 32 32 = true) (h2 : inB s (k + 1) 49 57 = true) :
    Calls Tryz.prog 95 #[.pointer (some ⟨b, 0, none⟩)] W fun e w' => e = .returned (.int .i64 ((nuR s k).1 : Nat)) ∧ Gone W b t s (nuR s k).2 r w' := by
  have hk2 := inB_lt s (k + 1) _ _ h2
  have hk : k ≤ s.size := by omega
  obtain ⟨D, hD⟩ : ∃ D, dgN s (k + 1) = D := ⟨_, rfl⟩
  have HR : Hid (nuR s k = ((parseV ((s.data.toList.drop (k + 1)).take D)).getD 0, k + 1 + D)) := by unfold Hid nuR; rw [h1, h2, hD]; rfl
  have H1 : Hid (Calls Tryz.prog 74 #[.pointer (some ⟨b, 0, none⟩), .int .i64 0, .int .u8 32, .int .u8 32] W fun e w' => e = .returned (.bool true) ∧ w' = W) := by
    have := in_any h.at 0 32 32 (by omega) hk (by omega)
    rw [Nat.add_zero, h1] at this
    exact this
  have H2 : Hid (Calls Tryz.prog 74 #[.pointer (some ⟨b, 0, none⟩), .int .i64 1, .int .u8 49, .int .u8 57] W fun e w' => e = .returned (.bool true) ∧ w' = W) := by
    have := in_any h.at 1 49 57 (by omega) hk (by omega)
    rw [h2] at this
    exact this
  have HG1 : Hid (Gone W b t s (k + 1) r (W.setCell ⟨b, 1, none⟩ (.int .i64 ((k : Int) + 1)))) := by
    have e1 : ((k + 1 : Nat) : Int) = (k : Int) + 1 := by simp
    rw [← e1]; exact (Gone.refl h).set (k + 1)
  have HD : Hid (D = 1 + runN s (k + 1 + 1) (9 - 1)) := hD.symm
  have p0 := h.at.pos
  have f0 := h.at.free
  clear h1 h2 h hD
  go_enter Tryz.func95, Tryz.ntmps95
  go_wp2_with fail
  refine Calls.mono H1.out ?_
  rintro e w1 ⟨rfl, hw⟩
  have hw' := hw.symm
  subst hw'
  clear hw
  go_wp2_with fail
  refine Calls.mono H2.out ?_
  rintro e w1 ⟨rfl, hw⟩
  have hw' := hw.symm
  subst hw'
  clear hw
  go_wp2_with fail
  clear H1 H2 p0 f0
  go_loopw [3] (fun v3 wr => ∃ d : Nat, v3 = .int .i64 d ∧ 1 ≤ d ∧ d ≤ 9 ∧ k + 1 + d ≤ s.size ∧ Hid (D = d + runN s (k + 1 + d) (9 - d)) ∧ Hid (Gone W b t s (k + 1) r wr)) (fun v3 _ => 9 - (intOf v3).toNat)
  case atStart => exact ⟨1, rfl, by omega, by omega, by omega, HD, HG1⟩
  case round =>
    obtain ⟨d, rfl, hd1, hd9, hds, HE, HG⟩ := hrel
    by_cases hlt : d < 9
    · cases hq : inB s (k + 1 + d) 48 57 with
      | true =>
        have hds' := inB_lt s (k + 1 + d) _ _ hq
        have HIN : Hid (Calls Tryz.prog 74 #[.pointer (some ⟨b, 0, none⟩), .int .i64 (d : Nat), .int .u8 48, .int .u8 57] wr fun e w' => e = .returned (.bool true) ∧ w' = wr) := by
          have := in_any HG.out.at_.at d 48 57 (by omega) (by omega) (by omega)
          rw [hq] at this
          exact this
        have HE' : Hid (D = (d + 1) + runN s (k + 1 + (d + 1)) (9 - (d + 1))) := by
          unfold Hid
          rw [HE.out, show 9 - d = (9 - (d + 1)) + 1 by omega, runN, if_pos hq]
          simp only [Nat.add_assoc]
          omega
        clear HE hq
        go_wp2_with fail
        refine Calls.mono HIN.out ?_
        rintro e w1 ⟨rfl, hw⟩
        have hw' := hw.symm
        subst hw'
        clear hw HIN
        go_wp2_with fail
        go_roundw
        case rel => exact ⟨d + 1, by simp, by omega, by omega, by omega, HE', HG⟩
        case measure => simp [intOf]; omega
      | false =>
        have HIN : Hid (Calls Tryz.prog 74 #[.pointer (some ⟨b, 0, none⟩), .int .i64 (d : Nat), .int .u8 48, .int .u8 57] wr fun e w' => e = .returned (.bool false) ∧ w' = wr) := by
          have := in_any HG.out.at_.at d 48 57 (by omega) (by omega) (by omega)
          rw [hq] at this
          exact this
        have HE' : Hid (D = d) := by
          unfold Hid
          rw [HE.out, show 9 - d = (9 - (d + 1)) + 1 by omega, runN, hq]
          rfl
        have g0 := HG.out.at_.at.text
        have g1 := HG.out.at_.at.pos
        clear HE HD HG1 hq
        obtain ⟨o, ho⟩ : ∃ o, parseV ((s.data.toList.drop (k + 1)).take d) = o := ⟨_, rfl⟩
        have HPA : Hid (∀ w, Calls Tryz.prog 104 #[.string (s.extract (k + 1) (k + 1 + d))] w fun e w' => e = .returned (parseRet o) ∧ w' = w) := fun w => by
          have := parse_any (s.extract (k + 1) (k + 1 + d)) w
          rw [Lib.extract_data, Nat.add_sub_cancel_left, ho] at this
          exact this
        have HR' : Hid (nuR s k = (o.getD 0, k + 1 + d)) := by unfold Hid; rw [HR.out, HE'.out, ho]
        have HGD : Hid (∀ m, Gone W b t s (k + 1) r (wr.drewN m)) := fun m => HG.out.drewN m
        clear ho HR HG
        cases o with
        | none =>
          rw [parseRet] at HPA
          go_wp2_with fail
          refine Calls.mono HIN.out ?_
          rintro e w1 ⟨rfl, hw⟩
          have hw' := hw.symm
          subst hw'
          clear hw HIN
          go_wp2_with fail
          go_quiet (first | (go_at_call 104; exact Calls.quiet_of_same (HPA.out _)))
          obtain ⟨W2, hW2⟩ : ∃ W2, W2 = wr.drewN nq := ⟨_, rfl⟩
          have hg2 : Gone W b t s (k + 1) r W2 := by rw [hW2]; exact HGD.out _
          rw [← hW2]
          clear hW2 HGD g0 g1
          have p2 := hg2.at_.at.pos
          have f2 := hg2.at_.at.free
          have HG5 : Hid (Gone W b t s (k + 1 + d) r (W2.setCell ⟨b, 1, none⟩ (.int .i64 ((k : Int) + 1 + d)))) := by
            have e1 : ((k + 1 + d : Nat) : Int) = (k : Int) + 1 + d := by simp
            rw [← e1]; exact hg2.set (k + 1 + d)
          clear hg2
          go_wp2_with fail
          go_ret
          rw [HR'.out]
          exact ⟨rfl, HG5.out⟩
        | some v =>
          rw [parseRet] at HPA
          go_wp2_with fail
          refine Calls.mono HIN.out ?_
          rintro e w1 ⟨rfl, hw⟩
          have hw' := hw.symm
          subst hw'
          clear hw HIN
          go_wp2_with fail
          go_quiet (first | (go_at_call 104; exact Calls.quiet_of_same (HPA.out _)))
          obtain ⟨W2, hW2⟩ : ∃ W2, W2 = wr.drewN nq := ⟨_, rfl⟩
          have hg2 : Gone W b t s (k + 1) r W2 := by rw [hW2]; exact HGD.out _
          rw [← hW2]
          clear hW2 HGD g0 g1
          have p2 := hg2.at_.at.pos
          have f2 := hg2.at_.at.free
          have HG5 : Hid (Gone W b t s (k + 1 + d) r (W2.setCell ⟨b, 1, none⟩ (.int .i64 ((k : Int) + 1 + d)))) := by
            have e1 : ((k + 1 + d : Nat) : Int) = (k : Int) + 1 + d := by simp
            rw [← e1]; exact hg2.set (k + 1 + d)
          clear hg2
          go_wp2_with fail
          go_ret
          rw [HR'.out]
          exact ⟨rfl, HG5.out⟩
    · have HE' : Hid (D = d) := by unfold Hid; rw [HE.out, show 9 - d = 0 by omega, runN]; omega
      have g0 := HG.out.at_.at.text
      have g1 := HG.out.at_.at.pos
      clear HE HD HG1
      obtain ⟨o, ho⟩ : ∃ o, parseV ((s.data.toList.drop (k + 1)).take d) = o := ⟨_, rfl⟩
      have HPA : Hid (∀ w, Calls Tryz.prog 104 #[.string (s.extract (k + 1) (k + 1 + d))] w fun e w' => e = .returned (parseRet o) ∧ w' = w) := fun w => by
        have := parse_any (s.extract (k + 1) (k + 1 + d)) w
        rw [Lib.extract_data, Nat.add_sub_cancel_left, ho] at this
        exact this
      have HR' : Hid (nuR s k = (o.getD 0, k + 1 + d)) := by unfold Hid; rw [HR.out, HE'.out, ho]
      have HGD : Hid (∀ m, Gone W b t s (k + 1) r (wr.drewN m)) := fun m => HG.out.drewN m
      clear ho HR HG
      cases o with
      | none =>
        rw [parseRet] at HPA
        go_wp2_with fail
        go_quiet (first | (go_at_call 104; exact Calls.quiet_of_same (HPA.out _)))
        obtain ⟨W2, hW2⟩ : ∃ W2, W2 = wr.drewN nq := ⟨_, rfl⟩
        have hg2 : Gone W b t s (k + 1) r W2 := by rw [hW2]; exact HGD.out _
        rw [← hW2]
        clear hW2 HGD g0 g1
        have p2 := hg2.at_.at.pos
        have f2 := hg2.at_.at.free
        have HG5 : Hid (Gone W b t s (k + 1 + d) r (W2.setCell ⟨b, 1, none⟩ (.int .i64 ((k : Int) + 1 + d)))) := by
          have e1 : ((k + 1 + d : Nat) : Int) = (k : Int) + 1 + d := by simp
          rw [← e1]; exact hg2.set (k + 1 + d)
        clear hg2
        go_wp2_with fail
        go_ret
        rw [HR'.out]
        exact ⟨rfl, HG5.out⟩
      | some v =>
        rw [parseRet] at HPA
        go_wp2_with fail
        go_quiet (first | (go_at_call 104; exact Calls.quiet_of_same (HPA.out _)))
        obtain ⟨W2, hW2⟩ : ∃ W2, W2 = wr.drewN nq := ⟨_, rfl⟩
        have hg2 : Gone W b t s (k + 1) r W2 := by rw [hW2]; exact HGD.out _
        rw [← hW2]
        clear hW2 HGD g0 g1
        have p2 := hg2.at_.at.pos
        have f2 := hg2.at_.at.free
        have HG5 : Hid (Gone W b t s (k + 1 + d) r (W2.setCell ⟨b, 1, none⟩ (.int .i64 ((k : Int) + 1 + d)))) := by
          have e1 : ((k + 1 + d : Nat) : Int) = (k : Int) + 1 + d := by simp
          rw [← e1]; exact hg2.set (k + 1 + d)
        clear hg2
        go_wp2_with fail
        go_ret
        rw [HR'.out]
        exact ⟨rfl, HG5.out⟩
theorem numberR_any {W : World} {b : Nat} {t : TypeId} {s : ByteArray} {k : Nat} {r : List Value} (h : PlC W b t s k r) (hs : s.size < 8796093022208) (hk : k ≤ s.size) :
    Calls Tryz.prog 95 #[.pointer (some ⟨b, 0, none⟩)] W fun e w' => e = .returned (.int .i64 ((nuR s k).1 : Nat)) ∧ Gone W b t s (nuR s k).2 r w' := by
  cases h1 : inB s k 32 32 with
  | false => exact number_no1 h hs hk h1
  | true =>
    cases h2 : inB s (k + 1) 49 57 with
    | false => exact number_no2 h hs hk h1 h2
    | true => exact number_yes h hs h1 h2
end Go.Proofs.YtaildeglikhkaaaGreatDoor
