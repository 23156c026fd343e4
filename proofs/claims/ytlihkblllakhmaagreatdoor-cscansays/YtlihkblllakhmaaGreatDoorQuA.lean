/- sync.Once's slow way, not yet done. -/
import Derived.Test.YtlihkblllakhmaaGreatDoorRd22
import Derived.Defers
import Derived.Laws.Pointers
import Derived.Laws.LoneSync
import Derived.RegionTactic
import Derived.RegionCalls
/-! A replacer, made. -/
namespace Go.Proofs.YtlihkblllakhmaaGreatDoor
open Go.RowKit
attribute [local go_sem] Oper.semAt_some

theorem infoS : (Tryz.prog.info? 9).map (fun i => (i.zero, i.size, i.bytes)) = some (some (.string ⟨#[]⟩), 1, 16) := by kernel_rfl
set_option maxRecDepth 100000 in
set_option maxHeartbeats 1000000 in
theorem newReplacer_any (W : World) (g : Nat) (xs : List Value) (hl : xs.length = 8) (hx : ∀ j u, xs[j]? = some u → W.cell? ((⟨g, 0, none⟩ : Addr).add j) = some u) (h1 : ∀ u ∈ xs, u.oneCell' = true) :
    Calls Tryz.prog 31 #[.slice (some ⟨g, 0, none⟩) 8 8] W fun e w' => ∃ q ad cap, e = .returned (.pointer (some ⟨q, 0, none⟩)) ∧ W.heap.size ≤ q ∧ Cel w' q 112 #[.int .u32 0, .int .i32 0, .int .u32 0, .nilIface, .slice ad 8 cap] ∧ w'.ownsRow W.heap.size 9 1 (.slice ad 8 cap) 8 xs ∧ Below W.heap.size W w' := by
  obtain ⟨i0, hi, hz0, hz1, hz2⟩ := info_parts infoS
  have HX : Hid (∀ j u, xs[j]? = some u → W.cell? ((⟨g, 0, none⟩ : Addr).add j) = some u) := hx
  clear hx
  go_enter Tryz.func31, Tryz.ntmps31
  go_wp2_with (at_builtin; refine wpList_append_own_at _ rfl _ _ 96 rfl W.heap.size 9 i0 _ 1 16 Tryz.underlying96 hi hz0 hz1 hz2 rfl (by decide) _ 0 [] rfl (World.ownsRow_nil W _ _ _) ⟨g, 0, none⟩ 8 8 xs rfl (by rw [hl]) HX.out h1 (by have := maxLen_big; omega) (by omega) (Nat.le_refl _) ?_; intro v6 w6 hown hgrow _ _; obtain ⟨ad6, cap6, rfl⟩ := owns_slice hown)
  have hbel : Below W.heap.size W w6 := grown_own (Nat.le_refl _) (Below.refl _ W) (World.ownsRow_nil W W.heap.size 9 1) hgrow
  have hs6 : W.heap.size ≤ w6.heap.size := hbel.size
  go_ret
  refine ⟨_, ad6, cap6, rfl, hs6, Cel.new w6 _ _, ?_, hbel.trans (Below.mono (below_new w6 _) hs6)⟩
  exact owns_turn hown (Turn.ofBelow (S := fun _ => False) (below_new w6 _)) (fun _ _ e => e.elim)
end Go.Proofs.YtlihkblllakhmaaGreatDoor
/-! The parts of sync.Once's slow way: the lock, and what is put off. -/
namespace Go.Proofs.YtlihkblllakhmaaGreatDoor
open Go.RowKit
attribute [local go_sem] Oper.semAt_some

theorem storeD (a : Addr) (x : Value) (u : FrameMode) (w : World) (hc : w.cell? a = some x) (hz : w.frozen? a = false) :
    CallsD Tryz.prog 75 #[.pointer (some a), .bool true] u w fun e u' w' => u' = u ∧ (e = .returned (.tuple #[]) ∧ w' = w.drew.setCell a (.int .u32 1)) := by
  have d1 : w.drew.cell? a = some x := by go_simp
  have d2 : w.drew.frozen? a = false := by go_simp
  have hs := run_call_store (P := Tryz.prog) Tryz.func85 (by kernel_rfl) (by kernel_rfl) (by kernel_rfl) (by kernel_rfl) (k := .u32) (y := 1) d1 d2
  go_enter_d Tryz.func75, Tryz.ntmps75
  go_wp2
  go_region_calls
  all_goals (go_end0; exact ⟨rfl, rfl⟩)
theorem mark0 (w : World) : (callFunc 93 #[]).run Tryz.prog w = .ok (.value (.tuple #[])) w := run_call_mark0 Tryz.func93 (by kernel_rfl) (by kernel_rfl) (by kernel_rfl) .disable (by kernel_rfl) w
theorem mark1 (w : World) : (callFunc 95 #[]).run Tryz.prog w = .ok (.value (.tuple #[])) w := run_call_mark0 Tryz.func95 (by kernel_rfl) (by kernel_rfl) (by kernel_rfl) .enable (by kernel_rfl) w
theorem mark2 (a : Addr) (w : World) : (callFunc 96 #[.pointer (some a)]).run Tryz.prog w = .ok (.value (.tuple #[])) w := run_call_marked Tryz.func96 (by kernel_rfl) (by kernel_rfl) (by kernel_rfl) .acquire (by kernel_rfl) a w
theorem mark3 (a : Addr) (w : World) : (callFunc 98 #[.pointer (some a)]).run Tryz.prog w = .ok (.value (.tuple #[])) w := run_call_marked Tryz.func98 (by kernel_rfl) (by kernel_rfl) (by kernel_rfl) .releaseMerge (by kernel_rfl) a w

set_option maxRecDepth 100000 in
set_option maxHeartbeats 1600000 in
theorem lockF (a : Addr) (w : World) (hc : w.cell? a = some (.int .i32 0)) (hz : w.frozen? a = false) :
    Calls Tryz.prog 73 #[.pointer (some a)] w fun e w' => e = .returned (.tuple #[]) ∧ w' = w.setCell a (.int .i32 1) := by
  have m0 := mark0
  have m1 := mark1
  have m2 := mark2
  have hcas := run_call_cas_hit (P := Tryz.prog) Tryz.func94 (by kernel_rfl) (by kernel_rfl) (by kernel_rfl) .i32 (by kernel_rfl) (y := 1) hc hz
  have hcv := run_convert_to_unsafe (P := Tryz.prog) (src := 171) (dst := 175) Tryz.underlying171 Tryz.underlying175 (by kernel_rfl) (World.cell?_setCell_same w a (.int .i32 1) hc)
  go_enter Tryz.func73, Tryz.ntmps73
  go_wp2
  first | go_end0 | (simp only [Exit.inBlock, Exit.then]; refine bodyPost_ret (results_none rfl _ _ _) rfl ?_) | refine bodyPost_ret (results_none rfl _ _ _) rfl ?_
  go_wp2
  go_end0
  exact ⟨rfl, rfl⟩

set_option maxRecDepth 100000 in
set_option maxHeartbeats 1600000 in
theorem unlockD (a : Addr) (u : FrameMode) (w : World) (hc : w.cell? a = some (.int .i32 1)) (hz : w.frozen? a = false) :
    CallsD Tryz.prog 74 #[.pointer (some a)] u w fun e u' w' => u' = u ∧ (e = .returned (.tuple #[]) ∧ w' = w.setCell a (.int .i32 0)) := by
  have m0 := mark0
  have m1 := mark1
  have m3 := mark3
  have hadd := run_call_add (P := Tryz.prog) Tryz.func99 (by kernel_rfl) (by kernel_rfl) (by kernel_rfl) .i32 (by kernel_rfl) (y := -1) (s := 0) hc hz (by simp [go_sem]; rfl)
  have hcv := run_convert_to_unsafe (P := Tryz.prog) (src := 171) (dst := 175) Tryz.underlying171 Tryz.underlying175 (by kernel_rfl) hc
  go_enter_d Tryz.func74, Tryz.ntmps74
  go_wp2
  go_end0
  go_wp2
  go_end0
  exact ⟨rfl, rfl⟩
end Go.Proofs.YtlihkblllakhmaaGreatDoor
namespace Go.Proofs.YtlihkblllakhmaaGreatDoor
open Go.RowKit
attribute [local go_sem] Oper.semAt_some

theorem loadB (a : Addr) (w : World) (h0 : w.cell? a = some (.int .u32 0)) :
    Calls Tryz.prog 58 #[.pointer (some a)] w fun e w' => e = .returned (.bool false) ∧ w' = w := by
  have hl := run_call_load (P := Tryz.prog) Tryz.func72 (by kernel_rfl) (by kernel_rfl) (by kernel_rfl) .u32 (by kernel_rfl) h0
  go_enter Tryz.func58, Tryz.ntmps58
  go_wp2
  go_ret
  exact ⟨rfl, rfl⟩
/-- What the built replacer leaves of the Once and its lock. -/
structure OnceHeld (q : Nat) (w : World) : Prop where
  c0 : w.cell? ⟨q, 0, none⟩ = some (.int .u32 0)
  c1 : w.cell? ⟨q, 1, none⟩ = some (.int .i32 1)
  f0 : w.frozen? ⟨q, 0, none⟩ = false
  f1 : w.frozen? ⟨q, 1, none⟩ = false
set_option maxRecDepth 100000 in
set_option maxHeartbeats 2000000 in
theorem slow_any (q : Nat) (w : World) (Po : World → Prop) (h0 : w.cell? ⟨q, 0, none⟩ = some (.int .u32 0)) (h1 : w.cell? ⟨q, 1, none⟩ = some (.int .i32 0))
    (f1 : w.frozen? ⟨q, 1, none⟩ = false)
    (HB : Hid (Calls Tryz.prog 46 #[.pointer (some ⟨q, 0, none⟩)] (w.setCell ⟨q, 1, none⟩ (.int .i32 1)) fun e w1 => e = .returned (.tuple #[]) ∧ Hid (OnceHeld q w1) ∧ Hid (Po w1))) :
    Calls Tryz.prog 59 #[.pointer (some ⟨q, 0, none⟩), .func (.func 46) #[.pointer (some ⟨q, 0, none⟩)] #[]] w fun e w' => e = .returned (.tuple #[]) ∧ ∃ w1, Po w1 ∧ w' = (w1.drew.setCell ⟨q, 0, none⟩ (.int .u32 1)).setCell ⟨q, 1, none⟩ (.int .i32 0) := by
  have hl := run_call_load (P := Tryz.prog) Tryz.func72 (by kernel_rfl) (by kernel_rfl) (by kernel_rfl) .u32 (by kernel_rfl) (w := w.setCell ⟨q, 1, none⟩ (.int .i32 1)) (a := ⟨q, 0, none⟩) (x := 0) ((World.cell?_setCell_other _ ⟨q, 1, none⟩ ⟨q, 0, none⟩ _ (by simp)).trans h0)
  have hnot : ∀ (x : Bool) (w : World), (Op.unary .not (.bool x)).run Tryz.prog w = .ok (.bool (!x)) w := fun _ _ => rfl
  go_enter_defers Tryz.func59, Tryz.ntmps59
  go_wp2_with (go_at_call 73; refine (lockF ⟨q, 1, none⟩ _ (by go_simp) (by go_simp)).mono ?_; rintro e w' ⟨rfl, rfl⟩)
  refine (loadB ⟨q, 0, none⟩ _ ((World.cell?_setCell_other _ ⟨q, 1, none⟩ ⟨q, 0, none⟩ _ (by simp)).trans h0)).mono ?_
  rintro e w' ⟨rfl, rfl⟩
  go_wp2_with fail
  refine Calls.mono HB.out ?_
  rintro e w1 ⟨rfl, HO, HP⟩
  go_wp2_with fail
  refine leaves_cons (f := 75) (args := #[.pointer (some ⟨q, 0, none⟩), .bool true]) (by simp) (by simp [go_sem]) ?_
  refine (storeD ⟨q, 0, none⟩ (.int .u32 0) .returning _ HO.out.c0 HO.out.f0).mono ?_
  rintro e u' w'' ⟨rfl, rfl, rfl⟩
  refine leaves_cons (f := 74) (args := #[.pointer (some ⟨q, 1, none⟩)]) (by simp [settle]) (by simp [go_sem]) ?_
  refine (unlockD ⟨q, 1, none⟩ _ _ ((World.cell?_setCell_other _ ⟨q, 0, none⟩ ⟨q, 1, none⟩ _ (by simp)).trans ((World.cell?_drew _ _).trans HO.out.c1)) (by simp [HO.out.f1])).mono ?_
  rintro e u' w'' ⟨rfl, rfl, rfl⟩
  have HP' := HP.out
  simp [Leaves, settle, results, Tryz.results59]
  exact ⟨w1, HP', rfl⟩
set_option maxRecDepth 100000 in
set_option maxHeartbeats 2000000 in
theorem once_any (q : Nat) (w : World) (Po : World → Prop) (h0 : w.cell? ⟨q, 0, none⟩ = some (.int .u32 0)) (h1 : w.cell? ⟨q, 1, none⟩ = some (.int .i32 0))
    (f1 : w.frozen? ⟨q, 1, none⟩ = false)
    (HB : Hid (Calls Tryz.prog 46 #[.pointer (some ⟨q, 0, none⟩)] (w.setCell ⟨q, 1, none⟩ (.int .i32 1)) fun e w1 => e = .returned (.tuple #[]) ∧ Hid (OnceHeld q w1) ∧ Hid (Po w1))) :
    Calls Tryz.prog 45 #[.pointer (some ⟨q, 0, none⟩), .func (.func 46) #[.pointer (some ⟨q, 0, none⟩)] #[]] w fun e w' => e = .returned (.tuple #[]) ∧ ∃ w1, Po w1 ∧ w' = (w1.drew.setCell ⟨q, 0, none⟩ (.int .u32 1)).setCell ⟨q, 1, none⟩ (.int .i32 0) := by
  have HL : Hid _ := loadB ⟨q, 0, none⟩ w h0
  have HS : Hid _ := slow_any q w Po h0 h1 f1 HB
  have hnot : ∀ (x : Bool) (w : World), (Op.unary .not (.bool x)).run Tryz.prog w = .ok (.bool (!x)) w := fun _ _ => rfl
  clear HB h0 h1 f1
  go_enter Tryz.func45, Tryz.ntmps45
  go_wp2_with fail
  refine Calls.mono HL.out ?_
  rintro e w' ⟨rfl, rfl⟩
  go_wp2_with fail
  refine Calls.mono HS.out ?_
  rintro e w' ⟨rfl, w1, hp, hw⟩
  have HP : Hid (∃ w1, Po w1 ∧ w' = (w1.drew.setCell ⟨q, 0, none⟩ (.int .u32 1)).setCell ⟨q, 1, none⟩ (.int .i32 0)) := ⟨w1, hp, hw⟩
  clear hp hw HS HL
  go_wp2_with fail
  go_end0
  exact ⟨rfl, HP.out⟩
end Go.Proofs.YtlihkblllakhmaaGreatDoor
