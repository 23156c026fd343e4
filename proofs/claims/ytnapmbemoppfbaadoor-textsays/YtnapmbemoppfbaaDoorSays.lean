/- The law TextSays, walked: it answers true at every source, text and two numbers. -/
import Derived.Test.YtnapmbemoppfbaaDoorSays1
import Derived.Deep.DeepCutAuto
namespace Go.Proofs.YtnapmbemoppfbaaDoor
open Go.RowKit

set_option maxRecDepth 100000 in
set_option maxHeartbeats 400000 in
theorem says_long (s t : ByteArray) (i j : Int) (w : World) (h : 4000 < t.size ∨ 20000 < s.size) :
    Calls Tryd.prog 3 #[.string s, .string t, .int .i64 i, .int .i64 j] w fun e w' => e = .returned (.bool true) ∧ Below w.heap.size w w' := by
  by_cases h1 : 4000 < t.size
  · clear h
    go_enter Tryd.func3, Tryd.ntmps3
    go_wp2_with fail
    refine (first_any _).mono ?_; rintro e w' ⟨rfl, rfl⟩
    go_wp2_with fail
    go_ret
    exact ⟨rfl, (Below.refl _ _).alloc (Nat.le_refl _) _⟩
  · have h2 : 20000 < s.size := by omega
    clear h
    go_enter Tryd.func3, Tryd.ntmps3
    go_wp2_with fail
    refine (first_any _).mono ?_; rintro e w' ⟨rfl, rfl⟩
    go_wp2_with fail
    go_ret
    exact ⟨rfl, (Below.refl _ _).alloc (Nat.le_refl _) _⟩

theorem info74 : ∃ i, Tryd.prog.info? 74 = some i ∧ i.comparable = true := by
  have h : (Tryd.prog.info? 74).map (·.comparable) = some true := by kernel_rfl
  obtain ⟨i, hi, hc⟩ := Option.map_eq_some_iff.1 h
  exact ⟨i, hi, hc⟩

theorem err_same (a : Addr) (w : World) : (binOp .eql 25 (.iface 74 (.pointer (some a))) (.iface 74 (.pointer (some a)))).run Tryd.prog w = .ok (.bool true) w := by
  obtain ⟨i, hi, hc⟩ := info74
  have h : (Tryd.prog.info? 90).map (·.comparable) = some true := by kernel_rfl
  obtain ⟨j, hj, _⟩ := Option.map_eq_some_iff.1 h
  exact run_eql_iface_ptr_same w a Tryd.underlying25 Tryd.underlying74 hi hc hj
theorem drewN_below {B : Nat} {a w : World} (h : Below B a w) (n : Nat) : Below B a (w.drewN n) := below_drewN h n

set_option maxRecDepth 100000 in
set_option maxHeartbeats 1000000 in
theorem says_big (s t : ByteArray) (i j : Int) (w : World) (h1 : t.size ≤ 4000) (h2 : s.size ≤ 20000) (h3 : 8192 < s.size) (a : Addr) (hv : w.cell? ⟨0, 0, none⟩ = some (.iface 74 (.pointer (some a)))) (hw : 0 < w.heap.size) :
    Calls Tryd.prog 3 #[.string s, .string t, .int .i64 i, .int .i64 j] w fun e w' => e = .returned (.bool true) ∧ Below w.heap.size w w' := by
  have heq := err_same a
  have hv1 : ∀ o, (w.alloc o).cell? ⟨0, 0, none⟩ = some (.iface 74 (.pointer (some a))) := fun o => by
    rw [World.cell?_of_block (w := w) (Below.heap_alloc w o _ (by simpa using hw))]; exact hv
  go_enter Tryd.func3, Tryd.ntmps3
  go_wp2_with fail
  refine (first_any _).mono ?_; rintro e w' ⟨rfl, rfl⟩
  go_wp2_with fail
  refine (new_long s _ _ h3 (hv1 _) ⟨a, rfl⟩).mono ?_; rintro e w' ⟨rfl, n, rfl⟩
  go_wp2_with fail
  go_ret
  exact ⟨rfl, drewN_below ((Below.refl _ _).alloc (Nat.le_refl _) _) _⟩
end Go.Proofs.YtnapmbemoppfbaaDoor
