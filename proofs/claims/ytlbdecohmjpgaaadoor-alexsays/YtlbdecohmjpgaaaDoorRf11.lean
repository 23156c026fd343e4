/- The document's own lexer: parts that are the same; bare words. -/
import Derived.Test.YtlbdecohmjpgaaaDoorRf6
namespace Go.Proofs.YtlbdecohmjpgaaaDoor
open Go.RowKit
attribute [local go_sem] Oper.semAt_some

set_option maxRecDepth 100000 in
set_option maxHeartbeats 4000000 in
theorem sameParts_any {W : World} {B1 B2 : Nat} {v1 v2 : Value} {X : List Pt} (h1 : RPt W B1 v1 X) (h2 : RPt W B2 v2 X) (hX : X.length < 100000) :
    Calls Tryd.prog 29 #[v1, v2] W fun e w' => e = .returned (.bool true) ∧ ∃ m, w' = W.drewN m := by
  obtain ⟨a1, c1, rfl⟩ := h1.form
  obtain ⟨a2, c2, rfl⟩ := h2.form
  have HG : Hid (∀ (k : Nat) (p : Pt), X[k]? = some p → ∃ g1 g2, a1 = some ⟨g1, 0, none⟩ ∧ a2 = some ⟨g2, 0, none⟩ ∧ ∀ (m j : Nat) (u : Value), (ptC p)[j]? = some u → (W.drewN m).cell? ⟨g1, k * 5 + j, none⟩ = some u ∧ (W.drewN m).cell? ⟨g2, k * 5 + j, none⟩ = some u) := fun k p hp => by
    have hne : X ≠ [] := fun e => by rw [e] at hp; cases hp
    obtain ⟨g1, q1, e1, _, _, _, r1⟩ := h1.get hne
    obtain ⟨g2, q2, e2, _, _, _, r2⟩ := h2.get hne
    obtain ⟨rfl, _, _⟩ := Value.slice.inj e1
    obtain ⟨rfl, _, _⟩ := Value.slice.inj e2
    exact ⟨g1, g2, rfl, rfl, fun m j u hu => ⟨r1 k p hp j u hu, r2 k p hp j u hu⟩⟩
  clear h1 h2
  go_enter Tryd.func29, Tryd.ntmps29
  go_wp2_with fail
  go_loopw [4, 5] (fun v4 v5 wr => ∃ k m : Nat, v4 = .bool false ∧ v5 = .int .i64 k ∧ k ≤ X.length ∧ wr = W.drewN m) (fun _ v5 _ => X.length - (intOf v5).toNat)
  case atStart => exact ⟨0, 0, rfl, rfl, Nat.zero_le _, rfl⟩
  case round =>
    obtain ⟨k, m, rfl, rfl, hk, rfl⟩ := hrel
    by_cases hlt : k < X.length
    · have hlt' : (k : Int) < (X.length : Int) := by omega
      obtain ⟨p, hp⟩ : ∃ p, X[k]? = some p := ⟨X[k]'hlt, List.getElem?_eq_getElem _⟩
      obtain ⟨g1, g2, rfl, rfl, hc⟩ := HG.out k p hp
      obtain ⟨a0, b0⟩ := hc m 0 _ rfl
      obtain ⟨a1, b1⟩ := hc m 1 _ rfl
      obtain ⟨a2, b2⟩ := hc m 2 _ rfl
      obtain ⟨a3, b3⟩ := hc m 3 _ rfl
      obtain ⟨a4, b4⟩ := hc m 4 _ rfl
      rw [Nat.add_zero] at a0 b0
      clear hc hp
      obtain ⟨Wm, hWm⟩ : ∃ Wm, Wm = W.drewN m := ⟨_, rfl⟩
      have HWM : Hid (Wm = W.drewN m) := hWm
      rw [← hWm] at a0 b0 a1 b1 a2 b2 a3 b3 a4 b4 ⊢
      clear hWm
      go_wp2_with fail
      go_quiet (fail)
      go_wp2_with fail
      refine ⟨⟨k + 1, m + nq, rfl, by simp, by omega, ?_⟩, by simp [intOf]; omega⟩
      rw [HWM.out, World.drewN_drewN]
    · have hlt' : ¬ (k : Int) < (X.length : Int) := by omega
      go_wp2_with fail
      go_ret
      exact ⟨rfl, m, rfl⟩
end Go.Proofs.YtlbdecohmjpgaaaDoor
