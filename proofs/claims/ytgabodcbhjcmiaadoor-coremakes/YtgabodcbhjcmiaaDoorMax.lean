/- The greatest of a row of numbers. -/
import Derived.Test.YtgabodcbhjcmiaaDoorKd
namespace Go.Proofs.YtgabodcbhjcmiaaDoor
open Go.RowKit
attribute [local go_sem] Oper.semAt_some

def maxL : Int → List Int → Int
  | m, [] => m
  | m, x :: l => maxL (max m x) l
set_option maxRecDepth 100000 in
set_option maxHeartbeats 1000000 in
theorem max_any (b : Nat) (x : Int) (l : List Int) (cap : Nat) (W : World) (hc : ∀ j y, (x :: l)[j]? = some y → W.cell? ⟨b, j, none⟩ = some (.int .i64 y)) (hl : l.length < 4294967296) :
    Calls Tryd.prog 33 #[.slice (some ⟨b, 0, none⟩) (l.length + 1) cap] W fun e w' => e = .returned (.int .i64 (maxL x l)) ∧ w' = W := by
  have HC : Hid (∀ j y, (x :: l)[j]? = some y → W.cell? ⟨b, j, none⟩ = some (.int .i64 y)) := hc
  have c0 := hc 0 x rfl
  clear hc
  have h1 : ¬ ((l.length : Int) + 1) < 1 := by omega
  go_enter Tryd.func33, Tryd.ntmps33
  go_wp2_with fail
  clear c0
  go_loopw [3, 4] (fun v3 v4 wr => ∃ (i : Nat) (m : Int), v4 = .int .i64 (i + 1 : Nat) ∧ v3 = .int .i64 m ∧ i ≤ l.length ∧ Hid (maxL m (l.drop i) = maxL x l) ∧ W = wr) (fun _ v4 _ => l.length + 1 - (intOf v4).toNat)
  case atStart => exact ⟨0, x, rfl, rfl, by omega, rfl, rfl⟩
  case round =>
    obtain ⟨i, m, rfl, rfl, hi, HM, hwr⟩ := hrel
    subst hwr
    by_cases hlt : i < l.length
    · obtain ⟨y, hy⟩ : ∃ y, l[i]? = some y := ⟨_, List.getElem?_eq_getElem hlt⟩
      have c1 := HC.out (i + 1) y (by simpa using hy)
      have HS : Hid (maxL (max m y) (l.drop (i + 1)) = maxL x l) := by
        unfold Hid
        rw [← HM.out, List.drop_eq_getElem_cons hlt]
        have : l[i] = y := by rw [List.getElem?_eq_getElem hlt] at hy; exact Option.some.inj hy
        rw [this]
        rfl
      have hlt' : ((i : Int) + 1) < ((l.length : Int) + 1) := by omega
      clear hy
      go_wp2_with fail
      exact ⟨⟨i + 1, max m y, by simp, by rw [show (if m < y then y else m) = max m y by rw [Int.max_def]; split <;> split <;> omega], by omega, HS.out, trivial⟩, by simp [intOf]; omega⟩
    · have hiz : i = l.length := by omega
      subst hiz
      have HF : Hid (m = maxL x l) := by
        unfold Hid
        rw [← HM.out, List.drop_length]
        rfl
      go_wp2_with fail
      go_ret
      exact ⟨by rw [← HF.out]; rfl, rfl⟩
end Go.Proofs.YtgabodcbhjcmiaaDoor
