/- What was asked; what is left without marks. -/
import Derived.Test.YthhghkjgffcpeaaDoorPick
namespace Go.Proofs.YthhghkjgffcpeaaDoor
open Go.RowKit

theorem ask56 : Asks 56 (fun _ => true) := by
  refine ⟨enters_of Tryd.func56 (by kernel_rfl) rfl, fun k W => ?_⟩
  go_enter Tryd.func56, Tryd.ntmps56
  go_wp2
  go_ret
  exact ⟨rfl, rfl⟩
theorem ask60 : Asks 60 (fun k => !markB k) := by
  refine ⟨enters_of Tryd.func60 (by kernel_rfl) rfl, fun k W => ?_⟩
  go_enter Tryd.func60, Tryd.ntmps60
  go_wp2_with fail
  refine (isMark_any k W).mono ?_
  rintro e w1 ⟨rfl, hw1⟩
  subst hw1
  go_wp2_with fail
  go_ret
  exact ⟨rfl, rfl⟩

theorem Kern.evAt {W : World} {K : Nat → Prop} {kb mb : Nat} {ev rv : Value} {F : Fls} {Y : List (Rw × Value)} {X : List (Ev × Value)} (h : Kern W K kb mb ev rv F Y X) : EvAt W ev X := EvAt.owned h.er fun p hp => (h.xt p hp).tx

set_option maxHeartbeats 1000000 in
theorem trace_any {W : World} {K : Nat → Prop} {kb mb : Nat} {ev rv : Value} {F : Fls} {Y : List (Rw × Value)} {X : List (Ev × Value)} (h : Kern W K kb mb ev rv F Y X) (hX : X.length < 4294967296) (hl : ∀ q ∈ X, q.1.l.length < 4294967296) :
    Calls Tryd.prog 28 #[kP kb] W fun e w' => ∃ v' X', e = .returned v' ∧ EvOwn w' W.heap.size v' X' ∧ X'.map Prod.fst = X.map Prod.fst ∧ Below W.heap.size W w' := by
  have c0 := h.kc.cell 0
  have HA : Hid (EvAt W ev X) := h.evAt
  have HL : Hid (∀ q ∈ X, q.1.l.length < 4294967296) := hl
  obtain ⟨ad, cap, rfl⟩ := owns_slice h.er
  clear h hl
  go_enter Tryd.func28, Tryd.ntmps28
  go_wp2_with fail
  refine (pick_any 56 _ ask56 _ X W HA.out hX HL.out).mono ?_
  rintro e w1 ⟨v', X', rfl, h1, h2, h3⟩
  go_wp2_with fail
  go_ret
  refine ⟨v', X', rfl, h1, ?_, h3⟩
  rw [h2]
  exact List.filter_eq_self.2 (fun _ _ => rfl)

def erased (E : List Ev) : List Ev := E.filter fun e => !markB e.kind
set_option maxHeartbeats 1000000 in
theorem erase_any {W : World} {v : Value} {X : List (Ev × Value)} (h : EvAt W v X) (hX : X.length < 4294967296) (hl : ∀ q ∈ X, q.1.l.length < 4294967296) :
    Calls Tryd.prog 34 #[v] W fun e w' => ∃ v' X', e = .returned v' ∧ EvOwn w' W.heap.size v' X' ∧ X'.map Prod.fst = erased (X.map Prod.fst) ∧ Below W.heap.size W w' := by
  have HA : Hid (EvAt W v X) := h
  have HL : Hid (∀ q ∈ X, q.1.l.length < 4294967296) := hl
  obtain ⟨ad, cap, rfl⟩ := h.form
  clear h hl
  go_enter Tryd.func34, Tryd.ntmps34
  go_wp2_with fail
  refine (pick_any 60 _ ask60 _ X W HA.out hX HL.out).mono ?_
  rintro e w1 ⟨v', X', rfl, h1, h2, h3⟩
  go_wp2_with fail
  go_ret
  exact ⟨v', X', rfl, h1, h2, h3⟩
end Go.Proofs.YthhghkjgffcpeaaDoor
