/- sync.Once's slow way, not yet done. -/
import Derived.Test.YtlihkblllakhmaaGreatDoorQu2
namespace Go.Proofs.YtlihkblllakhmaaGreatDoor
open Go.RowKit
attribute [local go_sem] Oper.semAt_some

theorem loadB (a : Addr) (w : World) (h0 : w.cell? a = some (.int .u32 0)) :
    Calls Tryz.prog 58 #[.pointer (some a)] w fun e w' => e = .returned (.bool false) ∧ w' = w := by
  have hl := run_call_load (P := Tryz.prog) Tryz.func72 (by kernel_rfl) (by kernel_rfl) (by kernel_rfl) .u32 (by kernel_rfl) h0
  go_enter Tryz.func58, Tryz.ntmps58
  go_wp2
  go_ret
  exact ⟨rfl, rfl⟩
/-- What the built replacer leaves of the Once and its lock. -/
structure OnceHeld (q : Nat) (w : World) : Prop where
  c0 : w.cell? ⟨q, 0, none⟩ = some (.int .u32 0)
  c1 : w.cell? ⟨q, 1, none⟩ = some (.int .i32 1)
  f0 : w.frozen? ⟨q, 0, none⟩ = false
  f1 : w.frozen? ⟨q, 1, none⟩ = false
set_option maxRecDepth 100000 in
set_option maxHeartbeats 2000000 in
theorem slow_any (q : Nat) (w : World) (Po : World → Prop) (h0 : w.cell? ⟨q, 0, none⟩ = some (.int .u32 0)) (h1 : w.cell? ⟨q, 1, none⟩ = some (.int .i32 0))
    (f1 : w.frozen? ⟨q, 1, none⟩ = false)
    (HB : Hid (Calls Tryz.prog 46 #[.pointer (some ⟨q, 0, none⟩)] (w.setCell ⟨q, 1, none⟩ (.int .i32 1)) fun e w1 => e = .returned (.tuple #[]) ∧ Hid (OnceHeld q w1) ∧ Hid (Po w1))) :
    Calls Tryz.prog 59 #[.pointer (some ⟨q, 0, none⟩), .func (.func 46) #[.pointer (some ⟨q, 0, none⟩)] #[]] w fun e w' => e = .returned (.tuple #[]) ∧ ∃ w1, Po w1 ∧ w' = (w1.drew.setCell ⟨q, 0, none⟩ (.int .u32 1)).setCell ⟨q, 1, none⟩ (.int .i32 0) := by
  have hl := run_call_load (P := Tryz.prog) Tryz.func72 (by kernel_rfl) (by kernel_rfl) (by kernel_rfl) .u32 (by kernel_rfl) (w := w.setCell ⟨q, 1, none⟩ (.int .i32 1)) (a := ⟨q, 0, none⟩) (x := 0) ((World.cell?_setCell_other _ ⟨q, 1, none⟩ ⟨q, 0, none⟩ _ (by simp)).trans h0)
  have hnot : ∀ (x : Bool) (w : World), (Op.unary .not (.bool x)).run Tryz.prog w = .ok (.bool (!x)) w := fun _ _ => rfl
  go_enter_defers Tryz.func59, Tryz.ntmps59
  go_wp2_with (go_at_call 73; refine (lockF ⟨q, 1, none⟩ _ (by go_simp) (by go_simp)).mono ?_; rintro e w' ⟨rfl, rfl⟩)
  refine (loadB ⟨q, 0, none⟩ _ ((World.cell?_setCell_other _ ⟨q, 1, none⟩ ⟨q, 0, none⟩ _ (by simp)).trans h0)).mono ?_
  rintro e w' ⟨rfl, rfl⟩
  go_wp2_with fail
  refine Calls.mono HB.out ?_
  rintro e w1 ⟨rfl, HO, HP⟩
  go_wp2_with fail
  refine leaves_cons (f := 75) (args := #[.pointer (some ⟨q, 0, none⟩), .bool true]) (by simp) (by simp [go_sem]) ?_
  refine (storeD ⟨q, 0, none⟩ (.int .u32 0) .returning _ HO.out.c0 HO.out.f0).mono ?_
  rintro e u' w'' ⟨rfl, rfl, rfl⟩
  refine leaves_cons (f := 74) (args := #[.pointer (some ⟨q, 1, none⟩)]) (by simp [settle]) (by simp [go_sem]) ?_
  refine (unlockD ⟨q, 1, none⟩ _ _ ((World.cell?_setCell_other _ ⟨q, 0, none⟩ ⟨q, 1, none⟩ _ (by simp)).trans ((World.cell?_drew _ _).trans HO.out.c1)) (by simp [HO.out.f1])).mono ?_
  rintro e u' w'' ⟨rfl, rfl, rfl⟩
  have HP' := HP.out
  simp [Leaves, settle, results, Tryz.results59]
  exact ⟨w1, HP', rfl⟩
set_option maxRecDepth 100000 in
set_option maxHeartbeats 2000000 in
theorem once_any (q : Nat) (w : World) (Po : World → Prop) (h0 : w.cell? ⟨q, 0, none⟩ = some (.int .u32 0)) (h1 : w.cell? ⟨q, 1, none⟩ = some (.int .i32 0))
    (f1 : w.frozen? ⟨q, 1, none⟩ = false)
    (HB : Hid (Calls Tryz.prog 46 #[.pointer (some ⟨q, 0, none⟩)] (w.setCell ⟨q, 1, none⟩ (.int .i32 1)) fun e w1 => e = .returned (.tuple #[]) ∧ Hid (OnceHeld q w1) ∧ Hid (Po w1))) :
    Calls Tryz.prog 45 #[.pointer (some ⟨q, 0, none⟩), .func (.func 46) #[.pointer (some ⟨q, 0, none⟩)] #[]] w fun e w' => e = .returned (.tuple #[]) ∧ ∃ w1, Po w1 ∧ w' = (w1.drew.setCell ⟨q, 0, none⟩ (.int .u32 1)).setCell ⟨q, 1, none⟩ (.int .i32 0) := by
  have HL : Hid _ := loadB ⟨q, 0, none⟩ w h0
  have HS : Hid _ := slow_any q w Po h0 h1 f1 HB
  have hnot : ∀ (x : Bool) (w : World), (Op.unary .not (.bool x)).run Tryz.prog w = .ok (.bool (!x)) w := fun _ _ => rfl
  clear HB h0 h1 f1
  go_enter Tryz.func45, Tryz.ntmps45
  go_wp2_with fail
  refine Calls.mono HL.out ?_
  rintro e w' ⟨rfl, rfl⟩
  go_wp2_with fail
  refine Calls.mono HS.out ?_
  rintro e w' ⟨rfl, w1, hp, hw⟩
  have HP : Hid (∃ w1, Po w1 ∧ w' = (w1.drew.setCell ⟨q, 0, none⟩ (.int .u32 1)).setCell ⟨q, 1, none⟩ (.int .i32 0)) := ⟨w1, hp, hw⟩
  clear hp hw HS HL
  go_wp2_with fail
  go_end0
  exact ⟨rfl, HP.out⟩
end Go.Proofs.YtlihkblllakhmaaGreatDoor
