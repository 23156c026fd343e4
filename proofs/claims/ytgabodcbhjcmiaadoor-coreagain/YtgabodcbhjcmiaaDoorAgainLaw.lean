/- The statement on programs taken apart and put together again, walked. -/
import Derived.Test.YtgabodcbhjcmiaaDoorAgain
import Derived.Test.YtgabodcbhjcmiaaDoorLight
import Derived.Test.YtgabodcbhjcmiaaDoorSame
namespace Go.Proofs.YtgabodcbhjcmiaaDoor
open Go.RowKit
attribute [local go_sem] Oper.semAt_some

set_option maxRecDepth 100000 in
set_option maxHeartbeats 4000000 in
theorem coreAgain_any (v : Value) (X : List Nd) (W : World) (ea : Nat → Addr) (hE : Ers W ea) (hN : NdAt W v X) (hin : ∀ x ∈ X, NdIn x) (hl : X.length ≤ 140737488351232) :
    Calls Tryd.prog 6 #[v] W fun e w' => e = .returned (.bool true) ∧ Below W.heap.size W w' := by
  have HE : Hid (∀ W', Below W.heap.size W W' → Ers W' ea) := fun W' hb => hE.below hb
  have HN : Hid (∀ W', Below W.heap.size W W' → NdAt W' v X) := fun W' hb => hN.below hb (Nat.le_refl _)
  have HI : Hid (∀ x ∈ X, NdIn x) := hin
  have HL : Hid (∀ W', Below W.heap.size W W' → Calls Tryd.prog 9 #[v] W' fun e w' => e = .returned (.bool (lightL X)) ∧ w' = W') := fun W' hb => light_any v X W' (HN.out W' hb) (fun x hx => (hin x hx).s) hl
  obtain ⟨ad, cap, rfl⟩ := hN.form
  clear hE hN hin
  go_enter Tryd.func6, Tryd.ntmps6
  go_wp2_with fail
  refine (first_any W ea (HE.out _ (Below.refl _ _))).mono ?_
  rintro e w1 ⟨rfl, hb1⟩
  go_wp2_with fail
  refine Calls.mono (HL.out _ hb1) ?_
  rintro e w2 ⟨rfl, hw2⟩
  subst hw2
  clear HL
  cases hlt : lightL X with
  | false =>
    go_wp2_with fail
    go_ret
    exact ⟨rfl, hb1⟩
  | true =>
    have hfew := light_few X hlt
    have HCK : Hid (Calls Tryd.prog 17 #[.slice ad X.length cap] w2 fun e w' => ∃ u, e = .returned u ∧ ErrIs w' ea u (checkL X) ∧ Below w2.heap.size w2 w') := check_any _ X w2 ea (HE.out _ hb1) (HN.out _ hb1) (by omega) (fun x hx => ⟨by have := (HI.out x hx).s; omega, (HI.out x hx).k.2⟩)
    have HB : Hid (∀ x ∈ X, -9223372036854775808 ≤ x.size ∧ x.k ≤ 9223372036854775807) := fun x hx => ⟨(HI.out x hx).size.1, (HI.out x hx).k.2⟩
    have HDP : Hid (∀ W', Below W.heap.size W W' → Calls Tryd.prog 18 #[.slice ad X.length cap] W' fun e w' => e = .returned (.int .i64 (depthL X)) ∧ Below W'.heap.size W' w') := fun W' hb => depth_any _ X W' (HN.out W' hb) (by omega) HB.out
    have HSM : Hid (∀ W' v', Below W.heap.size W W' → NdAt W' v' X → Calls Tryd.prog 12 #[v', .slice ad X.length cap] W' fun e w' => e = .returned (.bool true) ∧ Below W'.heap.size W' w') := fun W' v' hb h' => by
      have := sameNodes_any v' (.slice ad X.length cap) X X W' h' (HN.out W' hb) (by omega)
      rw [sameNs_true rfl] at this
      exact this
    clear hlt HI
    go_wp2_with fail
    refine Calls.mono HCK.out ?_
    rintro e w3 ⟨u3, rfl, hu3, hb3⟩
    have hbw3 := hb1.trans (hb3.mono hb1.size)
    clear HCK
    cases hck : checkL X with
    | many =>
      rw [hck] at hu3
      obtain rfl := hu3
      clear hck
      go_wp2_with fail
      go_ret
      exact ⟨rfl, hbw3⟩
    | node i =>
      rw [hck] at hu3
      obtain ⟨q, rfl, _⟩ := hu3
      clear hck
      go_wp2_with fail
      go_ret
      exact ⟨rfl, hbw3⟩
    | nest i =>
      rw [hck] at hu3
      obtain ⟨q, rfl, _⟩ := hu3
      clear hck
      go_wp2_with fail
      go_ret
      exact ⟨rfl, hbw3⟩
    | fine =>
      rw [hck] at hu3
      obtain rfl := hu3
      have hag := again_fine X hck
      have HAG : Hid (Calls Tryd.prog 21 #[.slice ad X.length cap, .int .i64 (30 : Nat)] w3 fun e w' => ∃ v', e = .returned v' ∧ NdOwn w' w3.heap.size v' X ∧ Below w3.heap.size w3 w') := again_any 30 (Nat.le_refl _) _ X w3 (HN.out _ hbw3) (seg_of_fine X hck).1 (by omega) HB.out
      have hd1 : depthL X ≤ 30 := hag.2.1
      have hd2 : depthL X ≤ (X.length : Int) := hag.2.2
      clear hck hag HB
      go_wp2_with fail
      refine Calls.mono HAG.out ?_
      rintro e w4 ⟨v4, rfl, ho4, hb4⟩
      have hbw4 := hbw3.trans (hb4.mono hbw3.size)
      have HO4 : Hid (NdOwn w4 w3.heap.size v4 X) := ho4
      obtain ⟨ad4, cap4, rfl⟩ := owns_slice ho4
      clear ho4 HAG
      go_wp2_with fail
      refine Calls.mono (HSM.out _ _ hbw4 HO4.out.at) ?_
      rintro e w5 ⟨rfl, hb5⟩
      have hbw5 := hbw4.trans (hb5.mono hbw4.size)
      go_wp2_with fail
      refine Calls.mono (HDP.out _ hbw5) ?_
      rintro e w6 ⟨rfl, hb6⟩
      have hbw6 := hbw5.trans (hb6.mono hbw5.size)
      go_wp2_with fail
      refine Calls.mono (HDP.out _ hbw6) ?_
      rintro e w7 ⟨rfl, hb7⟩
      have hbw7 := hbw6.trans (hb7.mono hbw6.size)
      go_wp2_with fail
      go_ret
      exact ⟨rfl, hbw7⟩
end Go.Proofs.YtgabodcbhjcmiaaDoor
