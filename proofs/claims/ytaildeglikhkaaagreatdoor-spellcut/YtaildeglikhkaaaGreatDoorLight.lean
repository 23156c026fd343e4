/- Are nodes few, of few bytes; are two lists of nodes the same. -/
import Derived.Test.YtaildeglikhkaaaGreatDoorOpenNd
import Derived.BigQuiet
namespace Go.Proofs.YtaildeglikhkaaaGreatDoor
open Go.RowKit
attribute [local go_sem] Oper.semAt_some

def sumS : List Nd → Nat
  | [] => 0
  | x :: l => x.s.length + sumS l
theorem sumS_snoc (l : List Nd) (x : Nd) : sumS (l ++ [x]) = sumS l + x.s.length := by
  induction l with
  | nil => simp [sumS]
  | cons y l ih => simp only [List.cons_append, sumS, ih]; omega
theorem sumS_le (b : Nat) : ∀ (l : List Nd), (∀ x ∈ l, x.s.length ≤ b) → sumS l ≤ l.length * b
  | [], _ => by simp [sumS]
  | x :: l, h => by
    have h1 := h x (by simp)
    have h2 := sumS_le b l (fun y hy => h y (by simp [hy]))
    rw [sumS, List.length_cons, Nat.succ_mul]
    omega
def lightL (X : List Nd) : Bool := decide (X.length ≤ 200) && decide (sumS (X.take 201) ≤ 9000)
set_option maxRecDepth 100000 in
set_option maxHeartbeats 1000000 in
theorem light_any (v : Value) (X : List Nd) (W : World) (h : NdAt W v X) (hin : ∀ x ∈ X, x.s.length ≤ 140737488351232) (hl : X.length ≤ 140737488351232) :
    Calls Tryz.prog 7 #[v] W fun e w' => e = .returned (.bool (lightL X)) ∧ w' = W := by
  have HL : Hid (∀ k, sumS (X.take k) ≤ (X.take k).length * 140737488351232) := fun k => sumS_le _ _ (fun x hx => hin x (List.mem_of_mem_take hx))
  have HH : Hid (NdAt W v X) := h
  obtain ⟨ad, cap, rfl⟩ := h.form
  clear h hin
  go_enter Tryz.func7, Tryz.ntmps7
  go_wp2_with fail
  go_loopw [3, 4] (fun v3 v4 wr => ∃ i : Nat, v4 = .int .i64 i ∧ i ≤ X.length ∧ i ≤ 201 ∧ v3 = .int .i64 (sumS (X.take i) : Nat) ∧ W = wr) (fun _ v4 _ => X.length - (intOf v4).toNat)
  case atStart => exact ⟨0, rfl, by omega, by omega, by simp [sumS], rfl⟩
  case round =>
    obtain ⟨i, rfl, hi, hi2, rfl, hwr⟩ := hrel
    subst hwr
    have hb : Hid (sumS (X.take i) ≤ 56576470318841856) := by
      have h1 := HL.out i
      have h2 : (X.take i).length ≤ 201 := by rw [List.length_take]; omega
      have h3 := Nat.mul_le_mul h2 (Nat.le_refl 140737488351232)
      unfold Hid
      omega
    obtain ⟨S, hS⟩ : ∃ S, sumS (X.take i) = S := ⟨_, rfl⟩
    have HS : Hid (sumS (X.take i) = S) := hS
    have hb2 : S ≤ 56576470318841856 := by rw [← hS]; exact hb.out
    rw [hS]
    clear hS hb
    by_cases hlt : i < X.length
    · have hlt' : (i : Int) < (X.length : Int) := by omega
      by_cases h200 : i ≤ 200
      · have h200' : (i : Int) ≤ 200 := by omega
        obtain ⟨x, hx⟩ : ∃ x, X[i]? = some x := ⟨_, List.getElem?_eq_getElem hlt⟩
        obtain ⟨g, o, cap', hv, hg, c0, c1, c2, c3, c4⟩ := HH.out.at hx
        cases hv
        have HN : Hid (sumS (X.take (i + 1)) = S + x.s.length) := by
          unfold Hid
          rw [List.take_add_one, hx, ← HS.out]
          exact sumS_snoc _ _
        have hxl : x.s.length ≤ 56576470318841856 := by
          have h1 := HL.out (i + 1)
          rw [HN.out] at h1
          have h2 : (X.take (i + 1)).length ≤ 201 := by rw [List.length_take]; omega
          have h3 := Nat.mul_le_mul h2 (Nat.le_refl 140737488351232)
          omega
        clear hx c0 c1 c2 c3
        go_wp2_with fail
        refine ⟨⟨i + 1, by simp, by omega, by omega, ?_, trivial⟩, by simp [intOf]; omega⟩
        rw [HN.out]
        simp
      · have h200' : ¬ (i : Int) ≤ 200 := by omega
        have hlen : ¬ (X.length : Int) ≤ 200 := by omega
        have hlenN : ¬ X.length ≤ 200 := by omega
        have HF : Hid (lightL X = false) := by unfold Hid lightL; rw [decide_eq_false (by omega)]; rfl
        go_wp2_with fail
        go_ret
        exact ⟨by rw [HF.out]; rfl, rfl⟩
    · have hlt' : ¬ (i : Int) < (X.length : Int) := by omega
      have hiz : i = X.length := by omega
      by_cases hlen : (X.length : Int) ≤ 200
      · have HF : Hid (lightL X = decide ((S : Int) ≤ 9000)) := by
          unfold Hid lightL
          rw [decide_eq_true (by omega), Bool.true_and]
          have e : sumS (X.take 201) = S := by rw [← HS.out, hiz, List.take_of_length_le (by omega), List.take_length]
          rw [e]
          exact decide_eq_decide.2 (by omega)
        go_wp2_with fail
        go_ret
        exact ⟨by rw [HF.out]; rfl, rfl⟩
      · have HF : Hid (lightL X = false) := by unfold Hid lightL; rw [decide_eq_false (by omega)]; rfl
        go_wp2_with fail
        go_ret
        exact ⟨by rw [HF.out]; rfl, rfl⟩
theorem light_few (X : List Nd) (h : lightL X = true) : X.length ≤ 200 := by
  unfold lightL at h
  simp only [Bool.and_eq_true, decide_eq_true_eq] at h
  exact h.1
end Go.Proofs.YtaildeglikhkaaaGreatDoor
