/- The statement on groups, walked. -/
import Derived.Test.YtdajacodfnidfaaDoorGroup
namespace Go.Proofs.YtdajacodfnidfaaDoor
open Go.RowKit Go.Shelf

theorem resV_none (a : Addr) : resV a none = bigV a := rfl
theorem resV_some (a : Addr) (l : List (List UInt8)) : resV a (some l) = .nilIface := rfl
theorem resL_none : resL none = [] := rfl
theorem resL_some (l : List (List UInt8)) : resL (some l) = l := rfl

set_option maxRecDepth 100000 in
set_option maxHeartbeats 8000000 in
theorem group_main (va vb vc : Value) (A B C : List (List UInt8)) (w : World) (a : Addr) (hA : Tx w va A) (hB : Tx w vb B) (hC : Tx w vc C)
    (hz : ∀ l ∈ [A, B, C], l.length < 140737488355328) (hzz : ∀ l ∈ [A, B, C], ∀ s ∈ l, s.length ≤ 140737488355328) (hE : Eb w a) :
    Calls Tryd.prog 3 #[va, vb, vc] w fun e w' => e = .returned (.bool true) ∧ Below w.heap.size w w' := by
  have HA : Hid (∀ W, Below w.heap.size w W → Tx W va A) := fun W h => hA.below h (Nat.le_refl _)
  have HB : Hid (∀ W, Below w.heap.size w W → Tx W vb B) := fun W h => hB.below h (Nat.le_refl _)
  have HC : Hid (∀ W, Below w.heap.size w W → Tx W vc C) := fun W h => hC.below h (Nat.le_refl _)
  have HE : Hid (∀ W, Below w.heap.size w W → Eb W a) := fun W h => hE.below h hE.pos
  have HZ : Hid (∀ l ∈ [A, B, C], l.length < 140737488355328) := hz
  have HZZ : Hid (∀ l ∈ [A, B, C], ∀ s ∈ l, s.length ≤ 140737488355328) := hzz
  obtain ⟨ada, capa, rfl⟩ := hA.form
  obtain ⟨adb, capb, rfl⟩ := hB.form
  obtain ⟨adc, capc, rfl⟩ := hC.form
  clear hA hB hC hE hz hzz
  go_enter Tryd.func3, Tryd.ntmps3
  go_wp2_with fail
  refine (first_any _ a (HE.out _ (Below.refl _ _))).mono ?_
  rintro e w1 ⟨rfl, hb1⟩
  go_wp2_with fail
  have HLI : Hid _ := light_any _ [A, B, C] _ (Tss.three w1 _ _ _ A B C (HA.out _ hb1) (HB.out _ hb1) (HC.out _ hb1)) (by simp) HZ.out HZZ.out
  cases hl : lightB [A, B, C]
  · rw [hl] at HLI
    refine Calls.mono HLI.out ?_
    rintro e w2 ⟨rfl, hw2⟩
    have hb2 : Below w1.heap.size w1 w2 := by rw [hw2]; exact below_new _ _
    clear hw2
    go_wp2_with fail
    go_ret
    exact ⟨rfl, hb1.trans (hb2.mono hb1.size)⟩
  · rw [hl] at HLI
    have hli := (lightB_iff _).1 hl
    have okA : Ok A := ⟨by have := hli.1 A (by simp); omega, fun s hs => by have h1 := sumL_mem A s hs; have h2 := sumLs_mem [A, B, C] A (by simp); have := hli.2; omega⟩
    have okB : Ok B := ⟨by have := hli.1 B (by simp); omega, fun s hs => by have h1 := sumL_mem B s hs; have h2 := sumLs_mem [A, B, C] B (by simp); have := hli.2; omega⟩
    have okC : Ok C := ⟨by have := hli.1 C (by simp); omega, fun s hs => by have h1 := sumL_mem C s hs; have h2 := sumLs_mem [A, B, C] C (by simp); have := hli.2; omega⟩
    have hla : A.length ≤ 130 := hli.1 A (by simp)
    have hlb : B.length ≤ 130 := hli.1 B (by simp)
    have hlc : C.length ≤ 130 := hli.1 C (by simp)
    have OA : Hid (Ok A) := okA
    have OB : Hid (Ok B) := okB
    have OC : Hid (Ok C) := okC
    clear okA okB okC hli hl
    refine Calls.mono HLI.out ?_
    rintro e w2 ⟨rfl, hw2⟩
    have hb2' : Below w1.heap.size w1 w2 := by rw [hw2]; exact below_new _ _
    have hb2 := hb1.trans (hb2'.mono hb1.size)
    clear hw2 hb2' hb1 HLI
    go_wp2_with fail
    -- the five sums
    obtain ⟨r1, HR1⟩ : ∃ r, Hid (bound (A ++ B) = r) := ⟨_, rfl⟩
    obtain ⟨r2, HR2⟩ : ∃ r, Hid (bound (B ++ C) = r) := ⟨_, rfl⟩
    obtain ⟨r3, HR3⟩ : ∃ r, Hid (bound (resL r1 ++ C) = r) := ⟨_, rfl⟩
    obtain ⟨r4, HR4⟩ : ∃ r, Hid (bound (A ++ resL r2) = r) := ⟨_, rfl⟩
    obtain ⟨r5, HR5⟩ : ∃ r, Hid (bound (A ++ B ++ C) = r) := ⟨_, rfl⟩
    have O1 : Hid (Ok (resL r1)) := by unfold Hid; rw [← HR1.out]; exact ok_bound _
    have O2 : Hid (Ok (resL r2)) := by unfold Hid; rw [← HR2.out]; exact ok_bound _
    have O3 : Hid (Ok (resL r3)) := by unfold Hid; rw [← HR3.out]; exact ok_bound _
    have O4 : Hid (Ok (resL r4)) := by unfold Hid; rw [← HR4.out]; exact ok_bound _
    have O5 : Hid (Ok (resL r5)) := by unfold Hid; rw [← HR5.out]; exact ok_bound _
    refine (cat2_any w2 a _ _ A B (HA.out _ hb2) (HB.out _ hb2) OA.out OB.out (HE.out _ hb2)).mono ?_
    rw [HR1.out]
    rintro e w3 ⟨ad3, cap3, rfl, ht3, hb3'⟩
    have hb3 := hb2.trans (hb3'.mono hb2.size)
    have HT3 : Hid (Tx w3 (.slice ad3 (resL r1).length cap3) (resL r1)) := ht3
    clear ht3 hb3' hb2
    go_wp2_with fail
    refine (cat2_any w3 a _ _ B C (HB.out _ hb3) (HC.out _ hb3) OB.out OC.out (HE.out _ hb3)).mono ?_
    rw [HR2.out]
    rintro e w4 ⟨ad4, cap4, rfl, ht4, hb4'⟩
    have hb4 := hb3.trans (hb4'.mono hb3.size)
    have HT4 : Hid (Tx w4 (.slice ad4 (resL r2).length cap4) (resL r2)) := ht4
    have b34 : Below w3.heap.size w3 w4 := hb4'
    clear ht4 hb4'
    go_wp2_with fail
    refine (cat2_any w4 a _ _ (resL r1) C (HT3.out.below b34 (Nat.le_refl _)) (HC.out _ hb4) O1.out OC.out (HE.out _ hb4)).mono ?_
    rw [HR3.out]
    rintro e w5 ⟨ad5, cap5, rfl, ht5, b45⟩
    have hb5 := hb4.trans (b45.mono hb4.size)
    have HT5 : Hid (Tx w5 (.slice ad5 (resL r3).length cap5) (resL r3)) := ht5
    clear ht5
    go_wp2_with fail
    refine (cat2_any w5 a _ _ A (resL r2) (HA.out _ hb5) (HT4.out.below b45 (Nat.le_refl _)) OA.out O2.out (HE.out _ hb5)).mono ?_
    rw [HR4.out]
    rintro e w6 ⟨ad6, cap6, rfl, ht6, b56⟩
    have hb6 := hb5.trans (b56.mono hb5.size)
    have HT6 : Hid (Tx w6 (.slice ad6 (resL r4).length cap6) (resL r4)) := ht6
    clear ht6
    go_wp2_with fail
    refine (cat3_any w6 a _ _ _ A B C (HA.out _ hb6) (HB.out _ hb6) (HC.out _ hb6) OA.out OB.out OC.out (HE.out _ hb6)).mono ?_
    rw [HR5.out]
    rintro e w7 ⟨ad7, cap7, rfl, ht7, b67⟩
    have hb7 := hb6.trans (b67.mono hb6.size)
    have HT7 : Hid (Tx w7 (.slice ad7 (resL r5).length cap7) (resL r5)) := ht7
    have b57 := b56.trans (b67.mono b56.size)
    have HT57 : Hid (Tx w7 (.slice ad5 (resL r3).length cap5) (resL r3)) := HT5.out.below b57 (Nat.le_refl _)
    have HT67 : Hid (Tx w7 (.slice ad6 (resL r4).length cap6) (resL r4)) := HT6.out.below b67 (Nat.le_refl _)
    clear ht7 HT3 HT4 HT5 HT6 b34 b45 b56 b67 b57 hb3 hb4 hb5 hb6
    go_upto_region 9 with fail
    go_cut [121] from 66 to 120 (fun v wx => v = .bool false ∧ Below w7.heap.size w7 wx)
    case first => as_aux_lemma =>
      cases r1 with
      | none =>
        simp only [resV_none, resL_none]
        go_wp2_with fail
        go_meet
        case rel => exact ⟨rfl, Below.refl _ _⟩
      | some l1 =>
        cases r2 with
        | none =>
          simp only [resV_none, resV_some, resL_none, resL_some]
          go_wp2_with fail
          go_meet
          case rel => exact ⟨rfl, Below.refl _ _⟩
        | some l2 =>
          obtain ⟨e1, f1⟩ := bound_some HR1.out
          obtain ⟨e2, f2⟩ := bound_some HR2.out
          cases hf : fitsB (A ++ B ++ C)
          · have hsum := fits_three A B C f1 f2 hf
            have e3 : r3 = none := by
              rw [← HR3.out, e1]
              unfold bound
              rw [show resL (some (A ++ B)) ++ C = A ++ B ++ C from rfl, hf]
              rfl
            subst e3
            clear f1 f2 hf HR1 HR2 HR3 O1 O2 O3 e1 e2
            simp only [resV_none, resV_some, resL_none, resL_some]
            go_wp2_with fail
            go_meet
            case rel => exact ⟨rfl, Below.refl _ _⟩
          · have e3 : ∃ l3, r3 = some l3 ∧ l3 = A ++ B ++ C := by
              refine ⟨_, ?_, rfl⟩
              rw [← HR3.out, e1]
              unfold bound
              rw [show resL (some (A ++ B)) ++ C = A ++ B ++ C from rfl, hf]
              rfl
            have e4 : ∃ l4, r4 = some l4 ∧ l4 = A ++ B ++ C := by
              refine ⟨_, ?_, rfl⟩
              rw [← HR4.out, e2]
              unfold bound
              rw [show resL (some (B ++ C)) = B ++ C from rfl, ← List.append_assoc, hf]
              rfl
            have e5 : ∃ l5, r5 = some l5 ∧ l5 = A ++ B ++ C := by
              refine ⟨_, ?_, rfl⟩
              rw [← HR5.out]
              unfold bound
              rw [hf]
              rfl
            obtain ⟨l3, rfl, g3⟩ := e3
            obtain ⟨l4, rfl, g4⟩ := e4
            obtain ⟨l5, rfl, g5⟩ := e5
            have HS1 : Hid (Calls Tryd.prog 11 #[.slice ad5 l3.length cap5, .slice ad6 l4.length cap6] w7 fun e w' => e = .returned (.bool true) ∧ Below w7.heap.size w7 w') := same_any w7 _ _ _ _ HT57.out HT67.out O3.out O4.out (by rw [show resL (some l3) = l3 from rfl, show resL (some l4) = l4 from rfl, g3, g4])
            have HS2 : Hid (∀ W, Below w7.heap.size w7 W → Calls Tryd.prog 11 #[.slice ad5 l3.length cap5, .slice ad7 l5.length cap7] W fun e w' => e = .returned (.bool true) ∧ Below W.heap.size W w') := fun W hW => same_any W _ _ _ _ (HT57.out.below hW (Nat.le_refl _)) (HT7.out.below hW (Nat.le_refl _)) O3.out O5.out (by rw [show resL (some l3) = l3 from rfl, show resL (some l5) = l5 from rfl, g3, g5])
            clear f1 f2 hf HR1 HR2 HR3 HR4 HR5 O1 O2 O3 O4 O5 HT57 HT67 HT7 g3 g4 g5 e1 e2
            simp only [resV_some, resL_some]
            go_wp2_with fail
            refine Calls.mono HS1.out ?_
            rintro e w8 ⟨rfl, hb8⟩
            go_wp2_with fail
            refine Calls.mono (HS2.out w8 hb8) ?_
            rintro e w9 ⟨rfl, hb9⟩
            go_wp2_with fail
            go_meet
            case rel => exact ⟨rfl, hb8.trans (hb9.mono hb8.size)⟩
    case rest =>
      obtain ⟨rfl, hbc⟩ := hcut
      have hb8 := hb7.trans (hbc.mono hb7.size)
      clear hbc hb7 HR1 HR2 HR3 HR4 HR5 O1 O2 O3 O4 O5 HT57 HT67 HT7
      go_wp2_with fail
      obtain ⟨j1, HJ1⟩ : ∃ r, Hid (joinB [A, B] = r) := ⟨_, rfl⟩
      obtain ⟨j2, HJ2⟩ : ∃ r, Hid (joinB [B, C] = r) := ⟨_, rfl⟩
      obtain ⟨j3, HJ3⟩ : ∃ r, Hid (joinB [resL j1, C] = r) := ⟨_, rfl⟩
      obtain ⟨j4, HJ4⟩ : ∃ r, Hid (joinB [A, resL j2] = r) := ⟨_, rfl⟩
      obtain ⟨j5, HJ5⟩ : ∃ r, Hid (joinB [A, B, C] = r) := ⟨_, rfl⟩
      have O1 : Hid (Ok (resL j1)) := by unfold Hid; rw [← HJ1.out]; exact ok_join _ _
      have O2 : Hid (Ok (resL j2)) := by unfold Hid; rw [← HJ2.out]; exact ok_join _ _
      have O3 : Hid (Ok (resL j3)) := by unfold Hid; rw [← HJ3.out]; exact ok_join _ _
      have O4 : Hid (Ok (resL j4)) := by unfold Hid; rw [← HJ4.out]; exact ok_join _ _
      refine (join2_any wc a _ _ A B (HA.out _ hb8) (HB.out _ hb8) OA.out OB.out (HE.out _ hb8)).mono ?_
      rw [HJ1.out]
      rintro e w3 ⟨ad3', cap3', rfl, ht3, hb3'⟩
      have hb3 := hb8.trans (hb3'.mono hb8.size)
      have HT3 : Hid (Tx w3 (.slice ad3' (resL j1).length cap3') (resL j1)) := ht3
      clear ht3 hb3' hb8
      go_wp2_with fail
      refine (join2_any w3 a _ _ B C (HB.out _ hb3) (HC.out _ hb3) OB.out OC.out (HE.out _ hb3)).mono ?_
      rw [HJ2.out]
      rintro e w4 ⟨ad4', cap4', rfl, ht4, b34⟩
      have hb4 := hb3.trans (b34.mono hb3.size)
      have HT4 : Hid (Tx w4 (.slice ad4' (resL j2).length cap4') (resL j2)) := ht4
      clear ht4
      go_wp2_with fail
      refine (join2_any w4 a _ _ (resL j1) C (HT3.out.below b34 (Nat.le_refl _)) (HC.out _ hb4) O1.out OC.out (HE.out _ hb4)).mono ?_
      rw [HJ3.out]
      rintro e w5 ⟨ad5', cap5', rfl, ht5, b45⟩
      have hb5 := hb4.trans (b45.mono hb4.size)
      have HT5 : Hid (Tx w5 (.slice ad5' (resL j3).length cap5') (resL j3)) := ht5
      clear ht5
      go_wp2_with fail
      refine (join2_any w5 a _ _ A (resL j2) (HA.out _ hb5) (HT4.out.below b45 (Nat.le_refl _)) OA.out O2.out (HE.out _ hb5)).mono ?_
      rw [HJ4.out]
      rintro e w6 ⟨ad6', cap6', rfl, ht6, b56⟩
      have hb6 := hb5.trans (b56.mono hb5.size)
      have HT6 : Hid (Tx w6 (.slice ad6' (resL j4).length cap6') (resL j4)) := ht6
      clear ht6
      go_wp2_with fail
      refine (join3_any w6 a _ _ _ A B C (HA.out _ hb6) (HB.out _ hb6) (HC.out _ hb6) OA.out OB.out OC.out (HE.out _ hb6)).mono ?_
      rw [HJ5.out]
      rintro e w7' ⟨ad7', cap7', rfl, ht7, b67⟩
      have hb7 := hb6.trans (b67.mono hb6.size)
      have HT7 : Hid (Tx w7' (.slice ad7' (resL j5).length cap7') (resL j5)) := ht7
      have b57 := b56.trans (b67.mono b56.size)
      have HT57 : Hid (Tx w7' (.slice ad5' (resL j3).length cap5') (resL j3)) := HT5.out.below b57 (Nat.le_refl _)
      have HT67 : Hid (Tx w7' (.slice ad6' (resL j4).length cap6') (resL j4)) := HT6.out.below b67 (Nat.le_refl _)
      clear ht7 HT3 HT4 HT5 HT6 b34 b45 b56 b67 b57 hb3 hb4 hb5 hb6
      go_upto_region 16 with fail
      cases j1 with
      | none =>
        simp only [resV_none, resL_none]
        go_wp2_with fail
        go_ret
        exact ⟨rfl, hb7⟩
      | some P =>
        cases j2 with
        | none =>
          simp only [resV_none, resV_some, resL_none, resL_some]
          go_wp2_with fail
          go_ret
          exact ⟨rfl, hb7⟩
        | some Q =>
          cases j3 with
          | none =>
            simp only [resV_none, resV_some, resL_none, resL_some]
            go_wp2_with fail
            go_ret
            exact ⟨rfl, hb7⟩
          | some X =>
            cases j4 with
            | none =>
              simp only [resV_none, resV_some, resL_none, resL_some]
              go_wp2_with fail
              go_ret
              exact ⟨rfl, hb7⟩
            | some Y =>
              obtain ⟨eXY, e5⟩ := join_groups A B C P Q X Y HJ1.out HJ2.out HJ3.out HJ4.out
              subst eXY
              have e5' : j5 = some X := by rw [← HJ5.out]; exact e5
              subst e5'
              have HS1 : Hid _ := same_any w7' _ _ _ _ HT57.out HT67.out O3.out O4.out rfl
              have HS2 : Hid (∀ W, Below w7'.heap.size w7' W → Calls Tryd.prog 11 #[.slice ad5' X.length cap5', .slice ad7' X.length cap7'] W fun e w' => e = .returned (.bool true) ∧ Below W.heap.size W w') := fun W hW => same_any W _ _ _ _ (HT57.out.below hW (Nat.le_refl _)) (HT7.out.below hW (Nat.le_refl _)) O3.out O3.out rfl
              clear HJ1 HJ2 HJ3 HJ4 HJ5 O1 O2 O3 O4 HT57 HT67 HT7 e5
              simp only [resV_some, resL_some] at HS1 ⊢
              go_wp2_with fail
              refine Calls.mono HS1.out ?_
              rintro e w8 ⟨rfl, hb8⟩
              go_wp2_with fail
              refine Calls.mono (HS2.out w8 hb8) ?_
              rintro e w9 ⟨rfl, hb9⟩
              go_wp2_with fail
              go_ret
              have b9 := hb8.trans (hb9.mono hb8.size)
              exact ⟨rfl, hb7.trans (b9.mono hb7.size)⟩
end Go.Proofs.YtdajacodfnidfaaDoor
