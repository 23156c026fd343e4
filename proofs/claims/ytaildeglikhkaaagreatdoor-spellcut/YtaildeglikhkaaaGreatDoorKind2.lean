/- A kind's name, and whether its text has a string. -/
import Derived.Test.YtaildeglikhkaaaGreatDoorKind
import Derived.Test.YtaildeglikhkaaaGreatDoorLeaf
namespace Go.Proofs.YtaildeglikhkaaaGreatDoor
open Go.RowKit
attribute [local go_sem] Oper.semAt_some

/-- Does a node of this kind have a string in its text? -/
def strK (k : Int) : Bool := k == 1 || k == 2 || k == 22 || k == 29 || k == 31 || k == 35
theorem hasString_any (k : Int) (w : World) : Calls Tryz.prog 62 #[.int .i64 k] w fun e w' => e = .returned (.bool (strK k)) ∧ w' = w := by
  by_cases h1 : k = 1
  · subst h1; go_enter Tryz.func62, Tryz.ntmps62; go_wp2_with fail; go_ret; exact ⟨rfl, rfl⟩
  by_cases h2 : k = 2
  · subst h2; go_enter Tryz.func62, Tryz.ntmps62; go_wp2_with fail; go_ret; exact ⟨rfl, rfl⟩
  by_cases h3 : k = 22
  · subst h3; go_enter Tryz.func62, Tryz.ntmps62; go_wp2_with fail; go_ret; exact ⟨rfl, rfl⟩
  by_cases h4 : k = 29
  · subst h4; go_enter Tryz.func62, Tryz.ntmps62; go_wp2_with fail; go_ret; exact ⟨rfl, rfl⟩
  by_cases h5 : k = 31
  · subst h5; go_enter Tryz.func62, Tryz.ntmps62; go_wp2_with fail; go_ret; exact ⟨rfl, rfl⟩
  by_cases h6 : k = 35
  · subst h6; go_enter Tryz.func62, Tryz.ntmps62; go_wp2_with fail; go_ret; exact ⟨rfl, rfl⟩
  have e1 : (k == 1) = false := by simpa using h1
  have e2 : (k == 2) = false := by simpa using h2
  have e3 : (k == 22) = false := by simpa using h3
  have e4 : (k == 29) = false := by simpa using h4
  have e5 : (k == 31) = false := by simpa using h5
  have e6 : (k == 35) = false := by simpa using h6
  go_enter Tryz.func62, Tryz.ntmps62
  go_wp2_with fail
  go_ret
  exact ⟨by simp [strK, e1, e2, e3, e4, e5, e6], rfl⟩
/-- The name of a kind. -/
def kindN (k : Int) : List UInt8 := if wordK k || cmdK k then kindL.getD k.toNat [] else [63]
set_option maxHeartbeats 1000000 in
theorem kindName_any (k : Int) (w : World) (hK : KnAt w) : Calls Tryz.prog 10 #[.int .i64 k] w fun e w' => e = .returned (str (kindN k)) ∧ w' = w := by
  cases hw : wordK k with
  | true =>
    have hk : 1 ≤ k ∧ k ≤ 12 := by simpa [wordK] using hw
    obtain ⟨n, rfl⟩ : ∃ n : Nat, k = n := ⟨k.toNat, by omega⟩
    obtain ⟨a, ha⟩ : ∃ a, kindL[n]? = some a := ⟨kindL[n]'(by rw [kindL_length]; omega), List.getElem?_eq_getElem _⟩
    have hA : w.cell? ⟨0, n, none⟩ = some (str a) := (KnAt.cell hK n).trans (kindA_at n a ha)
    have HN : Hid (kindN n = a) := by unfold Hid kindN; rw [hw]; simp [List.getD, ha]
    have HW : Hid (Calls Tryz.prog 27 #[.int .i64 (n : Nat)] w fun e w' => e = .returned (.bool true) ∧ w' = w) := by have := word_any n w; rw [hw] at this; exact this
    clear ha hw
    rw [HN.out]
    go_enter Tryz.func10, Tryz.ntmps10
    go_wp2_with fail
    refine Calls.mono HW.out ?_
    rintro e w1 ⟨rfl, h⟩
    have h' := h.symm
    subst h'
    clear h
    go_wp2_with fail
    go_ret
    exact ⟨rfl, rfl⟩
  | false =>
    have HW : Hid (Calls Tryz.prog 27 #[.int .i64 k] w fun e w' => e = .returned (.bool false) ∧ w' = w) := by have := word_any k w; rw [hw] at this; exact this
    cases hc : cmdK k with
    | true =>
      have hk : 20 ≤ k ∧ k ≤ 37 := by simpa [cmdK] using hc
      obtain ⟨n, rfl⟩ : ∃ n : Nat, k = n := ⟨k.toNat, by omega⟩
      obtain ⟨a, ha⟩ : ∃ a, kindL[n]? = some a := ⟨kindL[n]'(by rw [kindL_length]; omega), List.getElem?_eq_getElem _⟩
      have hA : w.cell? ⟨0, n, none⟩ = some (str a) := (KnAt.cell hK n).trans (kindA_at n a ha)
      have HN : Hid (kindN n = a) := by unfold Hid kindN; rw [hw, hc]; simp [List.getD, ha]
      have HC : Hid (Calls Tryz.prog 28 #[.int .i64 (n : Nat)] w fun e w' => e = .returned (.bool true) ∧ w' = w) := by have := command_any n w; rw [hc] at this; exact this
      clear ha hw hc
      rw [HN.out]
      go_enter Tryz.func10, Tryz.ntmps10
      go_wp2_with fail
      refine Calls.mono HW.out ?_
      rintro e w1 ⟨rfl, h⟩
      have h' := h.symm
      subst h'
      clear h
      go_wp2_with fail
      refine Calls.mono HC.out ?_
      rintro e w1 ⟨rfl, h⟩
      have h' := h.symm
      subst h'
      clear h
      go_wp2_with fail
      go_ret
      exact ⟨rfl, rfl⟩
    | false =>
      have HN : Hid (kindN k = [63]) := by unfold Hid kindN; rw [hw, hc]; rfl
      have HC : Hid (Calls Tryz.prog 28 #[.int .i64 k] w fun e w' => e = .returned (.bool false) ∧ w' = w) := by have := command_any k w; rw [hc] at this; exact this
      clear hw hc
      rw [HN.out]
      go_enter Tryz.func10, Tryz.ntmps10
      go_wp2_with fail
      refine Calls.mono HW.out ?_
      rintro e w1 ⟨rfl, h⟩
      have h' := h.symm
      subst h'
      clear h
      go_wp2_with fail
      refine Calls.mono HC.out ?_
      rintro e w1 ⟨rfl, h⟩
      have h' := h.symm
      subst h'
      clear h
      go_wp2_with fail
      go_ret
      exact ⟨rfl, rfl⟩
end Go.Proofs.YtaildeglikhkaaaGreatDoor
