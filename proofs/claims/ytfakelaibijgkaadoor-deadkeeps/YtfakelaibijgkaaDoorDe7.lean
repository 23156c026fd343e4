/- A node put above its children; a program passed. -/
import Derived.Test.YtfakelaibijgkaaDoorDe6
namespace Go.Proofs.YtfakelaibijgkaaDoor
open Go.RowKit
attribute [local go_sem] Oper.semAt_some

theorem choice_any : ∀ f, ChoC f
  | 0 => choice_step 0 (fun f' h => by omega)
  | f + 1 => choice_step (f + 1) (fun f' h => by
      obtain rfl : f' = f := by omega
      exact choice_any f')
theorem put_new {v : Value} {x : Nd} {W : World} {P : Value → World → Prop} (hk : ¬ (x.kind = 23 ∨ x.kind = 24 ∨ x.kind = 25 ∨ x.kind = 26 ∨ x.kind = 27 ∨ x.kind = 34 ∨ x.kind = 35 ∨ x.kind = 30))
    (hC : Calls Tryd.prog 15 #[.int .i64 x.kind, .int .i64 x.n, str x.s, v] (W.alloc (.cells #[.int .i64 x.kind, .int .i64 x.n, .int .i64 x.k, .int .i64 x.size, str x.s] 26)) fun e w' => ∃ v', e = .returned v' ∧ P v' w') :
    Calls Tryd.prog 33 #[ndV x, v] W fun e w' => ∃ v', e = .returned v' ∧ P v' w' := by
  obtain ⟨xk, xn, xc, xz, xs⟩ := x
  simp only at hk hC
  have HC : Hid _ := hC
  have e1 : (xk == 23) = false := beq_eq_false_iff_ne.2 (fun e => hk (by simp [e]))
  have e2 : (xk == 24) = false := beq_eq_false_iff_ne.2 (fun e => hk (by simp [e]))
  have e3 : (xk == 25) = false := beq_eq_false_iff_ne.2 (fun e => hk (by simp [e]))
  have e4 : (xk == 26) = false := beq_eq_false_iff_ne.2 (fun e => hk (by simp [e]))
  have e5 : (xk == 27) = false := beq_eq_false_iff_ne.2 (fun e => hk (by simp [e]))
  have e6 : (xk == 34) = false := beq_eq_false_iff_ne.2 (fun e => hk (by simp [e]))
  have e7 : (xk == 35) = false := beq_eq_false_iff_ne.2 (fun e => hk (by simp [e]))
  have e8 : (xk == 30) = false := beq_eq_false_iff_ne.2 (fun e => hk (by simp [e]))
  clear hC hk
  go_enter Tryd.func33, Tryd.ntmps33
  go_wp2_with fail
  refine Calls.mono HC.out ?_
  rintro e w1 ⟨v1, rfl, hp⟩
  go_wp2_with fail
  go_ret
  exact ⟨_, rfl, hp⟩
theorem put_seq {v : Value} {x : Nd} {W : World} {P : Value → World → Prop} (hk : x.kind = 23)
    (hC : Calls Tryd.prog 50 #[v] (W.alloc (.cells #[.int .i64 x.kind, .int .i64 x.n, .int .i64 x.k, .int .i64 x.size, str x.s] 26)) fun e w' => ∃ v', e = .returned v' ∧ P v' w') :
    Calls Tryd.prog 33 #[ndV x, v] W fun e w' => ∃ v', e = .returned v' ∧ P v' w' := by
  obtain ⟨xk, xn, xc, xz, xs⟩ := x
  simp only at hk hC
  subst hk
  have HC : Hid _ := hC
  clear hC
  go_enter Tryd.func33, Tryd.ntmps33
  go_wp2_with fail
  refine Calls.mono HC.out ?_
  rintro e w1 ⟨v1, rfl, hp⟩
  go_wp2_with fail
  go_ret
  exact ⟨_, rfl, hp⟩
theorem put_word {v : Value} {x : Nd} {W : World} {P : Value → World → Prop} (hk : x.kind = 34 ∨ x.kind = 35 ∨ x.kind = 30)
    (hC : Calls Tryd.prog 53 #[ndV x, v] (W.alloc (.cells #[.int .i64 x.kind, .int .i64 x.n, .int .i64 x.k, .int .i64 x.size, str x.s] 26)) fun e w' => ∃ v', e = .returned v' ∧ P v' w') :
    Calls Tryd.prog 33 #[ndV x, v] W fun e w' => ∃ v', e = .returned v' ∧ P v' w' := by
  obtain ⟨xk, xn, xc, xz, xs⟩ := x
  simp only at hk hC
  have HC : Hid _ := hC
  clear hC
  rcases hk with rfl | rfl | rfl
  all_goals
    go_enter Tryd.func33, Tryd.ntmps33
    go_wp2_with fail
    refine Calls.mono HC.out ?_
    rintro e w1 ⟨v1, rfl, hp⟩
    go_wp2_with fail
    go_ret
    exact ⟨_, rfl, hp⟩
set_option maxRecDepth 100000 in
set_option maxHeartbeats 1000000 in
theorem put_not {g o n cap : Nat} {q : Value} {x : Nd} {W : World} {P : Value → World → Prop} (hk : x.kind = 27) (hq : W.cell? ⟨g, o, none⟩ = some q) (hg : g < W.heap.size) (hn : 0 < n)
    (hC : ∀ w, Below W.heap.size W w → Calls Tryd.prog 52 #[ndV x, q] w fun e w' => ∃ v', e = .returned v' ∧ (P v' w' ∧ Below w.heap.size w w')) :
    Calls Tryd.prog 33 #[ndV x, .slice (some ⟨g, o, none⟩) n cap] W fun e w' => ∃ v', e = .returned v' ∧ P v' w' := by
  obtain ⟨xk, xn, xc, xz, xs⟩ := x
  simp only at hk hC
  subst hk
  have HC : Hid _ := hC
  have hn' : (0 : Int) < (n : Int) := by omega
  obtain ⟨W1, hW1⟩ : ∃ W1, W1 = W.alloc (.cells #[.int .i64 27, .int .i64 xn, .int .i64 xc, .int .i64 xz, str xs] 26) := ⟨_, rfl⟩
  have HW1 : Hid (W.alloc (.cells #[.int .i64 27, .int .i64 xn, .int .i64 xc, .int .i64 xz, str xs] 26) = W1) := hW1.symm
  have hb1 : Below W.heap.size W W1 := by rw [hW1]; exact below_new _ _
  have hd1 : Below W.heap.size W W1.drew := hb1.drew
  have HS : Hid (∀ w, Below W1.heap.size W1 w → w.cell? ⟨W.heap.size, 0, none⟩ = some (.int .i64 27) ∧ w.cell? ⟨W.heap.size, 1, none⟩ = some (.int .i64 xn) ∧ w.cell? ⟨W.heap.size, 2, none⟩ = some (.int .i64 xc) ∧ w.cell? ⟨W.heap.size, 3, none⟩ = some (.int .i64 xz) ∧ w.cell? ⟨W.heap.size, 4, none⟩ = some (str xs) ∧ w.cell? ⟨g, o, none⟩ = some q) := fun w hb => by
    have h1 : Cel W1 W.heap.size 26 #[.int .i64 27, .int .i64 xn, .int .i64 xc, .int .i64 xz, str xs] := by rw [hW1]; exact Cel.new W _ _
    have h2 := h1.below hb h1.lt
    have h3 := hb1.trans (hb.mono hb1.size)
    exact ⟨h2.cell 0, h2.cell 1, h2.cell 2, h2.cell 3, h2.cell 4, (h3.cell (p := ⟨g, o, none⟩) hg).trans hq⟩
  have HCD : Hid _ := HC.out _ hd1
  have hdd : Below W1.heap.size W1 W1.drew := (Below.refl _ W1).drew
  have x0 := (HS.out _ (Below.refl _ _)).1
  clear hC hq hW1 hb1 HC
  go_enter Tryd.func33, Tryd.ntmps33
  go_upto_region 1 with fail
  rw [HW1.out]
  go_wp2_with fail
  go_region_held3 (fun w' => w'.cell? ⟨W.heap.size, 0, none⟩ = some (.int .i64 27) ∧ w'.cell? ⟨W.heap.size, 1, none⟩ = some (.int .i64 xn) ∧ w'.cell? ⟨W.heap.size, 2, none⟩ = some (.int .i64 xc) ∧ w'.cell? ⟨W.heap.size, 3, none⟩ = some (.int .i64 xz) ∧ w'.cell? ⟨W.heap.size, 4, none⟩ = some (str xs) ∧ w'.cell? ⟨g, o, none⟩ = some q) (first | exact HS.out _ (by assumption) | go_keep)
    (first
      | (go_at_call 52; refine Calls.mono HCD.out ?_; rintro e w6 ⟨v6, rfl, hO6, hb6⟩; have hb7 : Below W1.heap.size W1 w6 := hdd.trans hb6))
  have HO6 : Hid _ := hO6
  clear hO6
  go_wp2_with fail
  go_ret
  exact ⟨_, rfl, HO6.out⟩
end Go.Proofs.YtfakelaibijgkaaDoor
