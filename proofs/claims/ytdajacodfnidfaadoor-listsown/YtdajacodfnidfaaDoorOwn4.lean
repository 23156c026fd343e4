/- The statement on one's own memory: every two lists. -/
import Derived.Test.YtdajacodfnidfaaDoorOwn3
namespace Go.Proofs.YtdajacodfnidfaaDoor
open Go.RowKit Go.Shelf

set_option maxRecDepth 100000 in
set_option maxHeartbeats 4000000 in
theorem own_any (va vb : Value) (A B : List (List UInt8)) (w : World) (a : Addr) (hA : Tx w va A) (hB : Tx w vb B)
    (hz : ∀ l ∈ [A, B], l.length < 140737488355328) (hzz : ∀ l ∈ [A, B], ∀ s ∈ l, s.length ≤ 140737488355328) (hE : Eb w a) :
    Calls Tryd.prog 5 #[va, vb] w fun e w' => e = .returned (.bool true) ∧ Below w.heap.size w w' := by
  by_cases h20 : A.length > 20
  · obtain ⟨ada, capa, rfl⟩ := hA.form
    obtain ⟨adb, capb, rfl⟩ := hB.form
    have HE : Hid (Eb w a) := hE
    have hla := hz A (by simp)
    clear hA hB hE hz hzz
    go_enter Tryd.func5, Tryd.ntmps5
    go_wp2_with fail
    refine (first_any _ a HE.out).mono ?_
    rintro e w1 ⟨rfl, hb1⟩
    go_wp2_with fail
    go_ret
    exact ⟨rfl, hb1⟩
  · by_cases h20b : B.length > 20
    · obtain ⟨ada, capa, rfl⟩ := hA.form
      obtain ⟨adb, capb, rfl⟩ := hB.form
      have HE : Hid (Eb w a) := hE
      have hla := hz B (by simp)
      clear hA hB hE hz hzz
      go_enter Tryd.func5, Tryd.ntmps5
      go_wp2_with fail
      refine (first_any _ a HE.out).mono ?_
      rintro e w1 ⟨rfl, hb1⟩
      go_wp2_with fail
      go_ret
      exact ⟨rfl, hb1⟩
    · cases hli : lightB [A, B]
      · have HA : Hid (∀ W, Below w.heap.size w W → Tx W va A) := fun W h => hA.below h (Nat.le_refl _)
        have HB : Hid (∀ W, Below w.heap.size w W → Tx W vb B) := fun W h => hB.below h (Nat.le_refl _)
        have HE : Hid (Eb w a) := hE
        have HZ : Hid (∀ l ∈ [A, B], l.length < 140737488355328) := hz
        have HZZ : Hid (∀ l ∈ [A, B], ∀ s ∈ l, s.length ≤ 140737488355328) := hzz
        have HLB : Hid _ := hli
        obtain ⟨ada, capa, rfl⟩ := hA.form
        obtain ⟨adb, capb, rfl⟩ := hB.form
        clear hA hB hE hz hzz hli
        go_enter Tryd.func5, Tryd.ntmps5
        go_wp2_with fail
        refine (first_any _ a HE.out).mono ?_
        rintro e w1 ⟨rfl, hb1⟩
        go_wp2_with fail
        have HLI : Hid _ := light_any _ [A, B] _ (Tss.two w1 _ _ A B (HA.out _ hb1) (HB.out _ hb1)) (by simp) HZ.out HZZ.out
        rw [HLB.out] at HLI
        refine Calls.mono HLI.out ?_
        rintro e w2 ⟨rfl, hw2⟩
        have hb2 : Below w1.heap.size w1 w2 := by rw [hw2]; exact below_new _ _
        clear hw2
        go_wp2_with fail
        go_ret
        exact ⟨rfl, hb1.trans (hb2.mono hb1.size)⟩
      · exact own_main va vb A B w a hA hB hz hzz hE h20 h20b hli
end Go.Proofs.YtdajacodfnidfaaDoor
