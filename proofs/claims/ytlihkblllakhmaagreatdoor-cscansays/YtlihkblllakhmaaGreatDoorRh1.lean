/- An error that is nil, or with nothing around it, is the document's. -/
import Derived.Test.YtlihkblllakhmaaGreatDoorRg14
import Derived.Test.YtlihkblllakhmaaGreatDoorSee
namespace Go.Proofs.YtlihkblllakhmaaGreatDoor
open Go.RowKit
attribute [local go_sem] Oper.semAt_some

theorem sameInts_nil (W : World) : Calls Tryz.prog 44 #[.slice none 0 0, .slice none 0 0] W fun e w' => e = .returned (.bool true) ∧ w' = W := by
  go_enter Tryz.func44, Tryz.ntmps44
  go_wp2_with fail
  go_loop [5] (fun v5 => v5 = .int .i64 0) (fun _ => 0)
  case atStart => rfl
  case round =>
    obtain rfl := hrel
    go_wp2_with fail
    go_ret
    exact ⟨rfl, rfl⟩
set_option maxRecDepth 100000 in
set_option maxHeartbeats 1000000 in
theorem sameFault_bare (c : Int) (W : World) :
    Calls Tryz.prog 27 #[.agg #[.int .i64 c, .slice none 0 0], .agg #[.int .i64 c, .slice none 0 0]] W fun e w' => e = .returned (.bool true) ∧ Below W.heap.size W w' := by
  have HS : Hid (∀ W', Calls Tryz.prog 44 #[.slice none 0 0, .slice none 0 0] W' fun e w' => e = .returned (.bool true) ∧ w' = W') := fun W' => sameInts_nil W'
  have hb1 := below_new W (.cells #[.int .i64 c, .slice none 0 0] 31)
  have hb2 := hb1.alloc hb1.size (.cells #[.int .i64 c, .slice none 0 0] 31)
  obtain ⟨q1, q2, _⟩ := two_new W 31 31 #[.int .i64 c, .slice none 0 0] #[.int .i64 c, .slice none 0 0]
  have HQ1 : Hid (Cel _ _ _ _) := q1
  have HQ2 : Hid (Cel _ _ _ _) := q2
  clear q1 q2
  go_enter Tryz.func27, Tryz.ntmps27
  go_wp2_with fail
  refine Calls.mono (HS.out _) ?_
  rintro e w1 ⟨rfl, hw3⟩
  subst hw3
  have d1 := Cel.cell HQ1.out 0
  have d2 := Cel.cell HQ2.out 0
  simp only [List.getElem?_toArray, List.getElem?_cons_zero] at d1 d2
  go_wp2_with fail
  go_ret
  exact ⟨by simp, hb2⟩
set_option maxRecDepth 100000 in
set_option maxHeartbeats 1000000 in
theorem fault_sent9 (W : World) (ea : Nat → Addr) (hE : Env W ea) (j : Nat) (hj : j < 17) (a : Addr) (ha : a = ea (ordE j)) : Calls Tryz.prog 43 #[errV a, .int .i64 9] W fun e w' => e = .returned (.agg #[.int .i64 (101 + j), .slice none 0 0]) ∧ Below W.heap.size W w' := by
  have HS : Hid (∀ W', Below W.heap.size W W' → Calls Tryz.prog 57 #[errV a] W' fun e w' => e = .returned (.int .i64 (101 + j)) ∧ Below W'.heap.size W' w') := fun W' hb => sentinel_any W' ea (hE.below hb) j hj a ha
  clear hE ha
  have hno := assert_no (.pointer (some a))
  go_enter Tryz.func43, Tryz.ntmps43
  go_wp2_with fail
  refine Calls.mono (HS.out _ (below_new _ _)) ?_
  rintro e w1 ⟨rfl, hb1⟩
  have hbw1 := (below_new W (.cells #[.int .i64 0, .slice none 0 0] 31)).trans (hb1.mono (below_new W _).size)
  have HC1 : Hid (Cel w1 W.heap.size 31 #[.int .i64 0, .slice none 0 0]) := Cel.below (Cel.new W 31 #[.int .i64 0, .slice none 0 0]) hb1 (by rw [new_size]; omega)
  clear hb1
  go_wp2_with fail
  refine (bareE_any _ _).mono ?_
  rintro e w2 ⟨rfl, hb2⟩
  have hc2 : Cel w2 W.heap.size 31 #[.int .i64 0, .slice none 0 0] := Cel.below HC1.out hb2 HC1.out.lt
  have hbw2 := hbw1.trans (hb2.mono hbw1.size)
  have HC2 : Hid (Cel w2 W.heap.size 31 #[.int .i64 0, .slice none 0 0]) := hc2
  have c0 := hc2.cell 0
  have f0 := hc2.frozen 0
  have c1 : ∀ v, (w2.setCell ⟨W.heap.size, 0, none⟩ v).cell? ⟨W.heap.size, 1, none⟩ = some (.slice none 0 0) := fun v => (hc2.set (j := 0) v).cell 1
  have f1 : ∀ v, (w2.setCell ⟨W.heap.size, 0, none⟩ v).frozen? ⟨W.heap.size, 1, none⟩ = false := fun v => (hc2.set (j := 0) v).frozen 1
  simp only [List.getElem?_toArray, List.getElem?_cons_zero] at c0
  clear hc2 hb2
  go_wp2_with fail
  refine bodyPost_ret (results_cell_row (p := 4) (ty := 31) rfl _ _ W.heap.size 31 #[.int .i64 (101 + j), .slice none 0 0] (0, 0) _ rfl ((HC2.out.set (j := 0) _).set (j := 1) _) Tryz.underlying31 rfl size33) rfl ?_
  exact ⟨rfl, (hbw2.setCell (p := ⟨W.heap.size, 0, none⟩) (Nat.le_refl _) _).setCell (p := ⟨W.heap.size, 1, none⟩) (Nat.le_refl _) _⟩
set_option maxRecDepth 100000 in
set_option maxHeartbeats 1000000 in
theorem Fault_nil (W : World) :
    Calls Tryz.prog 26 #[.nilIface] W fun e w' => e = .returned (.agg #[.int .i64 0, .slice none 0 0]) ∧ Below W.heap.size W w' := by
  go_enter Tryz.func26, Tryz.ntmps26
  go_wp2_with fail
  refine Calls.mono (none_any _) ?_
  rintro e w1 ⟨rfl, hb1⟩
  have hbw1 := (below_new W (.cells #[.int .i64 0, .slice none 0 0] 31)).trans (hb1.mono (below_new W _).size)
  have hr3 : Cel w1 W.heap.size 31 #[.int .i64 0, .slice none 0 0] := Cel.below (Cel.new W 31 #[.int .i64 0, .slice none 0 0]) hb1 (by rw [new_size]; omega)
  have c0 := hr3.cell 0
  have f0 := hr3.frozen 0
  have c1 : ∀ v, (w1.setCell ⟨W.heap.size, 0, none⟩ v).cell? ⟨W.heap.size, 1, none⟩ = some (.slice none 0 0) := fun v => (hr3.set (j := 0) v).cell 1
  have f1 : ∀ v, (w1.setCell ⟨W.heap.size, 0, none⟩ v).frozen? ⟨W.heap.size, 1, none⟩ = false := fun v => (hr3.set (j := 0) v).frozen 1
  simp only [List.getElem?_toArray, List.getElem?_cons_zero] at c0
  have HR4 : Hid (Cel ((w1.setCell ⟨W.heap.size, 0, none⟩ (.int .i64 0)).setCell ⟨W.heap.size, 1, none⟩ (.slice none 0 0)) W.heap.size 31 #[.int .i64 0, .slice none 0 0]) := (hr3.set (j := 0) _).set (j := 1) _
  clear hr3 hb1
  go_wp2_with fail
  refine bodyPost_ret (results_cell_row (p := 2) (ty := 31) rfl _ _ W.heap.size 31 _ (0, 0) _ rfl HR4.out Tryz.underlying31 rfl size33) rfl ?_
  exact ⟨rfl, (hbw1.setCell (p := ⟨W.heap.size, 0, none⟩) (Nat.le_refl _) _).setCell (p := ⟨W.heap.size, 1, none⟩) (Nat.le_refl _) _⟩
set_option maxRecDepth 100000 in
set_option maxHeartbeats 1000000 in
theorem Fault_sent9 (W : World) (ea : Nat → Addr) (hE : Env W ea) (j : Nat) (hj : j < 17) (a : Addr) (ha : a = ea (ordE j)) :
    Calls Tryz.prog 26 #[errV a] W fun e w' => e = .returned (.agg #[.int .i64 (101 + (j : Int)), .slice none 0 0]) ∧ Below W.heap.size W w' := by
  have HF : Hid (∀ W', Below W.heap.size W W' → Calls Tryz.prog 43 #[errV a, .int .i64 9] W' fun e w' => e = .returned (.agg #[.int .i64 (101 + j), .slice none 0 0]) ∧ Below W'.heap.size W' w') := fun W' hb => fault_sent9 W' ea (hE.below hb) j hj a ha
  clear hE ha
  go_enter Tryz.func26, Tryz.ntmps26
  go_wp2_with fail
  refine Calls.mono (HF.out _ (below_new _ _)) ?_
  rintro e w1 ⟨rfl, hb1⟩
  have hbw1 := (below_new W (.cells #[.int .i64 0, .slice none 0 0] 31)).trans (hb1.mono (below_new W _).size)
  have hr3 : Cel w1 W.heap.size 31 #[.int .i64 0, .slice none 0 0] := Cel.below (Cel.new W 31 #[.int .i64 0, .slice none 0 0]) hb1 (by rw [new_size]; omega)
  have c0 := hr3.cell 0
  have f0 := hr3.frozen 0
  have c1 : ∀ v, (w1.setCell ⟨W.heap.size, 0, none⟩ v).cell? ⟨W.heap.size, 1, none⟩ = some (.slice none 0 0) := fun v => (hr3.set (j := 0) v).cell 1
  have f1 : ∀ v, (w1.setCell ⟨W.heap.size, 0, none⟩ v).frozen? ⟨W.heap.size, 1, none⟩ = false := fun v => (hr3.set (j := 0) v).frozen 1
  simp only [List.getElem?_toArray, List.getElem?_cons_zero] at c0
  have HR4 : Hid (Cel ((w1.setCell ⟨W.heap.size, 0, none⟩ (.int .i64 (101 + (j : Int)))).setCell ⟨W.heap.size, 1, none⟩ (.slice none 0 0)) W.heap.size 31 #[.int .i64 (101 + (j : Int)), .slice none 0 0]) := (hr3.set (j := 0) _).set (j := 1) _
  clear hr3 hb1
  go_wp2_with fail
  refine bodyPost_ret (results_cell_row (p := 2) (ty := 31) rfl _ _ W.heap.size 31 _ (0, 0) _ rfl HR4.out Tryz.underlying31 rfl size33) rfl ?_
  exact ⟨rfl, (hbw1.setCell (p := ⟨W.heap.size, 0, none⟩) (Nat.le_refl _) _).setCell (p := ⟨W.heap.size, 1, none⟩) (Nat.le_refl _) _⟩
set_option maxRecDepth 100000 in
set_option maxHeartbeats 1000000 in
theorem same_nil (W : World) :
    Calls Tryz.prog 10 #[.nilIface, .agg #[.int .i64 0, .slice none 0 0]] W fun e w' => e = .returned (.bool true) ∧ Below W.heap.size W w' := by
  have HF : Hid (∀ W', Below W.heap.size W W' → Calls Tryz.prog 26 #[.nilIface] W' fun e w' => e = .returned (.agg #[.int .i64 0, .slice none 0 0]) ∧ Below W'.heap.size W' w') := fun W' _ => Fault_nil W'
  have hb1 := below_new W (.cells #[.int .i64 0, .slice none 0 0] 31)
  go_enter Tryz.func10, Tryz.ntmps10
  go_wp2_with fail
  refine Calls.mono (HF.out _ hb1) ?_
  rintro e w1 ⟨rfl, hb2⟩
  have hbw1 := hb1.trans (hb2.mono hb1.size)
  have q3 := Cel.below (Cel.new W 31 #[.int .i64 0, .slice none 0 0]) hb2 (by rw [new_size]; omega)
  have q4 := Cel.below q3 (below_new w1 (.cells #[.int .i64 0, .slice none 0 0] 31)) q3.lt
  have d0 := q4.cell 0
  have d1 := q4.cell 1
  simp only [List.getElem?_toArray, List.getElem?_cons_zero, List.getElem?_cons_succ] at d0 d1
  have hbw2 := hbw1.alloc hbw1.size (.cells #[.int .i64 0, .slice none 0 0] 31)
  clear q3 q4 hb2
  go_wp2_with fail
  refine (sameFault_bare 0 _).mono ?_
  rintro e w3 ⟨rfl, hb3⟩
  go_wp2_with fail
  go_ret
  exact ⟨rfl, hbw2.trans (hb3.mono hbw2.size)⟩
set_option maxRecDepth 100000 in
set_option maxHeartbeats 1000000 in
theorem same_sent (W : World) (ea : Nat → Addr) (hE : Env W ea) (j : Nat) (hj : j < 17) (a : Addr) (ha : a = ea (ordE j)) (c : Int) (hc : c = 101 + j) :
    Calls Tryz.prog 10 #[errV a, .agg #[.int .i64 c, .slice none 0 0]] W fun e w' => e = .returned (.bool true) ∧ Below W.heap.size W w' := by
  have HF : Hid (∀ W', Below W.heap.size W W' → Calls Tryz.prog 26 #[errV a] W' fun e w' => e = .returned (.agg #[.int .i64 c, .slice none 0 0]) ∧ Below W'.heap.size W' w') := fun W' hb => by rw [hc]; exact Fault_sent9 W' ea (hE.below hb) j hj a ha
  clear hE ha hc
  have hb1 := below_new W (.cells #[.int .i64 c, .slice none 0 0] 31)
  go_enter Tryz.func10, Tryz.ntmps10
  go_wp2_with fail
  refine Calls.mono (HF.out _ hb1) ?_
  rintro e w1 ⟨rfl, hb2⟩
  have hbw1 := hb1.trans (hb2.mono hb1.size)
  have q3 := Cel.below (Cel.new W 31 #[.int .i64 c, .slice none 0 0]) hb2 (by rw [new_size]; omega)
  have q4 := Cel.below q3 (below_new w1 (.cells #[.int .i64 c, .slice none 0 0] 31)) q3.lt
  have d0 := q4.cell 0
  have d1 := q4.cell 1
  simp only [List.getElem?_toArray, List.getElem?_cons_zero, List.getElem?_cons_succ] at d0 d1
  have hbw2 := hbw1.alloc hbw1.size (.cells #[.int .i64 c, .slice none 0 0] 31)
  clear q3 q4 hb2
  go_wp2_with fail
  refine (sameFault_bare c _).mono ?_
  rintro e w3 ⟨rfl, hb3⟩
  go_wp2_with fail
  go_ret
  exact ⟨rfl, hbw2.trans (hb3.mono hbw2.size)⟩
end Go.Proofs.YtlihkblllakhmaaGreatDoor
