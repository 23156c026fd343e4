/- Lists of nodes that are the same. -/
import Derived.Test.YtfakelaibijgkaaDoorDe9
import Derived.BigQuiet
namespace Go.Proofs.YtfakelaibijgkaaDoor
open Go.RowKit
attribute [local go_sem] Oper.semAt_some

set_option maxRecDepth 100000 in
set_option maxHeartbeats 2000000 in
theorem equal_any (v1 v2 : Value) (X : List Nd) (W : World) (h1 : NdAt W v1 X) (h2 : NdAt W v2 X) (hl : X.length < 4294967296) :
    Calls Tryd.prog 28 #[v1, v2] W fun e w' => e = .returned (.bool true) ∧ Below W.heap.size W w' := by
  have H1 : Hid (∀ w, Below W.heap.size W w → NdAt w v1 X) := fun w hb => h1.below hb (Nat.le_refl _)
  have H2 : Hid (∀ w, Below W.heap.size W w → NdAt w v2 X) := fun w hb => h2.below hb (Nat.le_refl _)
  obtain ⟨a1, c1, rfl⟩ := h1.form
  obtain ⟨a2, c2, rfl⟩ := h2.form
  have hn : ((X.length : Int) != (X.length : Int)) = false := by simp
  clear h1 h2
  go_enter Tryd.func28, Tryd.ntmps28
  go_wp2_with fail
  go_loopw [13] (fun v13 wr => ∃ i : Nat, v13 = .int .i64 i ∧ i ≤ X.length ∧ Hid (Below W.heap.size W wr)) (fun v13 _ => X.length - (intOf v13).toNat)
  case atStart => exact ⟨0, rfl, by omega, Below.refl _ _⟩
  case round =>
    obtain ⟨i, rfl, hi, HB⟩ := hrel
    by_cases hlt : i < X.length
    · have hlt' : (i : Int) < (X.length : Int) := by omega
      obtain ⟨x, hx⟩ : ∃ x, X[i]? = some x := ⟨_, List.getElem?_eq_getElem hlt⟩
      obtain ⟨g, o, cp, hv, hg, c0, c1', c2', c3, c4⟩ := (H1.out wr HB.out).at hx
      obtain ⟨g2, o2, cp2, hv2, hg2, d0, d1, d2, d3, d4⟩ := (H2.out wr HB.out).at hx
      injection hv with e1 e2 e3
      injection hv2 with e4 e5 e6
      subst e1
      subst e3
      subst e4
      subst e6
      clear e2 e5
      obtain ⟨xk, xn, xc, xz, xs⟩ := x
      simp only at c0 c1' c2' c3 c4 d0 d1 d2 d3 d4
      have m1 : (xk == xk) = true := by simp
      have m2 : (xn == xn) = true := by simp
      have m3 : (xc == xc) = true := by simp
      have m4 : (xz == xz) = true := by simp
      clear hx
      go_wp2_with fail
      go_region
      go_wp2_with fail
      exact ⟨⟨i + 1, by simp, by omega, HB.out.drew⟩, by simp [intOf]; omega⟩
    · have hlt' : ¬ (i : Int) < (X.length : Int) := by omega
      go_wp2_with fail
      go_ret
      exact ⟨rfl, HB.out⟩
theorem same_any (v1 v2 : Value) (X : List Nd) (W : World) (h1 : NdAt W v1 X) (h2 : NdAt W v2 X) (hl : X.length < 4294967296) :
    Calls Tryd.prog 13 #[v1, v2] W fun e w' => e = .returned (.bool true) ∧ Below W.heap.size W w' := by
  have HE : Hid _ := equal_any v1 v2 X W h1 h2 hl
  clear h1 h2
  go_enter Tryd.func13, Tryd.ntmps13
  go_wp2_with fail
  refine Calls.mono HE.out ?_
  rintro e w1 ⟨rfl, hb⟩
  go_wp2_with fail
  go_ret
  exact ⟨rfl, hb⟩
end Go.Proofs.YtfakelaibijgkaaDoor
