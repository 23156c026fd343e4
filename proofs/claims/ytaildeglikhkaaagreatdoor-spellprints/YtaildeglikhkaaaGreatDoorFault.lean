/- The error of a reader that cannot go on. -/
import Derived.Test.YtaildeglikhkaaaGreatDoorHex
import Derived.Test.YtaildeglikhkaaaGreatDoorCheck
namespace Go.Proofs.YtaildeglikhkaaaGreatDoor
open Go.RowKit
attribute [local go_sem] Oper.semAt_some

set_option maxHeartbeats 2000000 in
theorem fault_end {W : World} {b : Nat} {t : TypeId} {s : ByteArray} {k : Nat} {r : List Value} (h : PlC W b t s k r) (ea : Nat → Addr) (hE : Ers W ea) (hk : k = s.size) :
    Calls Tryz.prog 70 #[.pointer (some ⟨b, 0, none⟩)] W fun e w' => (∃ q, e = .returned (.iface 79 (.pointer (some ⟨q, 0, none⟩))) ∧ Cel w' q 81 #[.int .i64 (k : Nat), errV (ea 4)]) ∧ Below W.heap.size W w' := by
  have c0 := h.at.text
  have c1 := h.at.pos
  have c5 : W.cell? ⟨5, 0, none⟩ = some (errV (ea 4)) := hE.cell 4 (by omega)
  clear hE h
  subst hk
  have HD : Hid (∀ m, Below W.heap.size W (W.drewN m)) := fun m => ⟨rfl, rfl, rfl, Nat.le_refl _, fun _ _ => rfl⟩
  go_enter Tryz.func70, Tryz.ntmps70
  go_wp2_with fail
  go_quiet (fail)
  obtain ⟨W1, hW1⟩ : ∃ W1, W1 = W.drewN nq := ⟨_, rfl⟩
  have HB : Hid (Below W.heap.size W W1) := by rw [hW1]; exact HD.out _
  have d1 : W1.cell? ⟨b, 1, none⟩ = some (.int .i64 s.size) := by rw [hW1]; exact c1
  have d5 : W1.cell? ⟨5, 0, none⟩ = some (errV (ea 4)) := by rw [hW1]; exact c5
  rw [← hW1]
  clear hW1 HD c0 c1 c5
  go_wp2_with fail
  go_region
  go_wp2_with fail
  go_ret
  have hc : Cel (W1.alloc (.cells #[.int .i64 (s.size : Nat), errV (ea 4)] 81)).drew W1.heap.size 81 #[.int .i64 (s.size : Nat), errV (ea 4)] := Cel.new W1 81 _
  exact ⟨⟨_, rfl, hc⟩, (HB.out.alloc HB.out.size _).drew⟩
set_option maxHeartbeats 2000000 in
theorem fault_form {W : World} {b : Nat} {t : TypeId} {s : ByteArray} {k : Nat} {r : List Value} (h : PlC W b t s k r) (ea : Nat → Addr) (hE : Ers W ea) (hk : k < s.size) :
    Calls Tryz.prog 70 #[.pointer (some ⟨b, 0, none⟩)] W fun e w' => (∃ q, e = .returned (.iface 79 (.pointer (some ⟨q, 0, none⟩))) ∧ Cel w' q 81 #[.int .i64 (k : Nat), errV (ea 5)]) ∧ Below W.heap.size W w' := by
  have c0 := h.at.text
  have c1 := h.at.pos
  have c5 : W.cell? ⟨6, 0, none⟩ = some (errV (ea 5)) := hE.cell 5 (by omega)
  clear hE h
  have hne : ((k : Int) == (s.size : Int)) = false := by simp; omega
  have HD : Hid (∀ m, Below W.heap.size W (W.drewN m)) := fun m => ⟨rfl, rfl, rfl, Nat.le_refl _, fun _ _ => rfl⟩
  go_enter Tryz.func70, Tryz.ntmps70
  go_wp2_with fail
  go_quiet (fail)
  obtain ⟨W1, hW1⟩ : ∃ W1, W1 = W.drewN nq := ⟨_, rfl⟩
  have HB : Hid (Below W.heap.size W W1) := by rw [hW1]; exact HD.out _
  have d1 : W1.cell? ⟨b, 1, none⟩ = some (.int .i64 k) := by rw [hW1]; exact c1
  have d5 : W1.cell? ⟨6, 0, none⟩ = some (errV (ea 5)) := by rw [hW1]; exact c5
  rw [← hW1]
  clear hW1 HD c0 c1 c5
  go_wp2_with fail
  go_region
  go_wp2_with fail
  go_ret
  have hc : Cel (W1.alloc (.cells #[.int .i64 (k : Nat), errV (ea 5)] 81)).drew W1.heap.size 81 #[.int .i64 (k : Nat), errV (ea 5)] := Cel.new W1 81 _
  exact ⟨⟨_, rfl, hc⟩, (HB.out.alloc HB.out.size _).drew⟩
/-- Which error it is: the text's end, or its form. -/
theorem fault_any {W : World} {b : Nat} {t : TypeId} {s : ByteArray} {k : Nat} {r : List Value} (h : PlC W b t s k r) (ea : Nat → Addr) (hE : Ers W ea) (hk : k ≤ s.size) :
    Calls Tryz.prog 70 #[.pointer (some ⟨b, 0, none⟩)] W fun e w' => (∃ q, e = .returned (.iface 79 (.pointer (some ⟨q, 0, none⟩))) ∧ Cel w' q 81 #[.int .i64 (k : Nat), errV (ea (if k = s.size then 4 else 5))]) ∧ Below W.heap.size W w' := by
  by_cases hq : k = s.size
  · rw [if_pos hq]; exact fault_end h ea hE hq
  · rw [if_neg hq]; exact fault_form h ea hE (by omega)
end Go.Proofs.YtaildeglikhkaaaGreatDoor
