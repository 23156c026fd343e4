/- Errors are seen as plain data. -/
import Derived.Test.YtlihkblllakhmaaGreatDoorRd7
import Derived.BigQuiet
import Derived.BigRegion
import Derived.LaidEql
namespace Go.Proofs.YtlihkblllakhmaaGreatDoor
open Go.RowKit
attribute [local go_sem] Oper.semAt_some

/-- Which variable holds the error of a number. -/
def ordE : Nat → Nat
  | 0 => 0
  | 1 => 4
  | 2 => 2
  | 3 => 5
  | 4 => 1
  | 5 => 6
  | 6 => 3
  | 7 => 7
  | 8 => 8
  | 9 => 9
  | 10 => 10
  | 11 => 11
  | 12 => 12
  | 13 => 13
  | 14 => 14
  | 15 => 15
  | 16 => 16
  | n => n + 100
theorem ordE_lt : ∀ i, i < 17 → ordE i < 17 := by decide
theorem ordE_inj : ∀ i, i < 17 → ∀ j, j < 17 → ordE i = ordE j → i = j := by decide
def sentL (ea : Nat → Addr) : List Value := (List.range 17).map fun i => errV (ea (ordE i))

set_option maxHeartbeats 1000000 in
theorem sentinels_any (W : World) (ea : Nat → Addr) (hE : Env W ea) : Calls Tryz.prog 70 #[] W fun e w' => e = .returned (.slice (some ⟨W.heap.size, 0, none⟩) 17 17) ∧ w' = W.alloc (.cells (sentL ea).toArray 25) := by
  have c0 : W.cell? ⟨0, 0, none⟩ = some (errV (ea 0)) := hE.cell 0 (by omega)
  have c1 : W.cell? ⟨4, 0, none⟩ = some (errV (ea 4)) := hE.cell 4 (by omega)
  have c2 : W.cell? ⟨2, 0, none⟩ = some (errV (ea 2)) := hE.cell 2 (by omega)
  have c3 : W.cell? ⟨5, 0, none⟩ = some (errV (ea 5)) := hE.cell 5 (by omega)
  have c4 : W.cell? ⟨1, 0, none⟩ = some (errV (ea 1)) := hE.cell 1 (by omega)
  have c5 : W.cell? ⟨6, 0, none⟩ = some (errV (ea 6)) := hE.cell 6 (by omega)
  have c6 : W.cell? ⟨3, 0, none⟩ = some (errV (ea 3)) := hE.cell 3 (by omega)
  have c7 : W.cell? ⟨7, 0, none⟩ = some (errV (ea 7)) := hE.cell 7 (by omega)
  have c8 : W.cell? ⟨8, 0, none⟩ = some (errV (ea 8)) := hE.cell 8 (by omega)
  have c9 : W.cell? ⟨9, 0, none⟩ = some (errV (ea 9)) := hE.cell 9 (by omega)
  have c10 : W.cell? ⟨10, 0, none⟩ = some (errV (ea 10)) := hE.cell 10 (by omega)
  have c11 : W.cell? ⟨11, 0, none⟩ = some (errV (ea 11)) := hE.cell 11 (by omega)
  have c12 : W.cell? ⟨12, 0, none⟩ = some (errV (ea 12)) := hE.cell 12 (by omega)
  have c13 : W.cell? ⟨13, 0, none⟩ = some (errV (ea 13)) := hE.cell 13 (by omega)
  have c14 : W.cell? ⟨14, 0, none⟩ = some (errV (ea 14)) := hE.cell 14 (by omega)
  have c15 : W.cell? ⟨15, 0, none⟩ = some (errV (ea 15)) := hE.cell 15 (by omega)
  have c16 : W.cell? ⟨16, 0, none⟩ = some (errV (ea 16)) := hE.cell 16 (by omega)
  clear hE
  go_enter Tryz.func70, Tryz.ntmps70
  go_wp2_with fail
  go_ret
  exact ⟨rfl, rfl⟩
theorem info107 : ∃ i, Tryz.prog.info? 195 = some i ∧ i.comparable = true := by
  have h : (Tryz.prog.info? 195).map (·.comparable) = some true := by kernel_rfl
  obtain ⟨i, hi, hc⟩ := Option.map_eq_some_iff.1 h
  exact ⟨i, hi, hc⟩
theorem info125 : ∃ i, Tryz.prog.info? 230 = some i ∧ i.size ≠ 0 := by
  have h : (Tryz.prog.info? 230).map (·.size) = some 1 := by kernel_rfl
  obtain ⟨i, hi, hc⟩ := Option.map_eq_some_iff.1 h
  exact ⟨i, hi, by rw [hc]; decide⟩
theorem err_same (a : Addr) (w : World) : (binOp .eql 25 (errV a) (errV a)).run Tryz.prog w = .ok (.bool true) w := by
  obtain ⟨i, hi, hc⟩ := info107
  obtain ⟨j, hj, _⟩ := info125
  exact run_eql_iface_ptr_same w a Tryz.underlying25 Tryz.underlying195 hi hc hj
theorem err_other {W : World} {ea : Nat → Addr} (hE : Env W ea) (i j : Nat) (hi : i < 17) (hj : j < 17) (h : i ≠ j) : (binOp .eql 25 (errV (ea i)) (errV (ea j))).run Tryz.prog W = .ok (.bool false) W := by
  obtain ⟨i0, hi0, hc⟩ := info107
  obtain ⟨j0, hj0, hz⟩ := info125
  obtain ⟨c1, t1, h1⟩ := hE.row i hi
  obtain ⟨c2, t2, h2⟩ := hE.row j hj
  exact run_eql_iface_ptr_other W Tryz.underlying25 Tryz.underlying195 hi0 hc hj0 hz (fun e => h (hE.apart i j hi hj e)) h1 h2
theorem alike_same (a : Addr) (W : World) : Calls Tryz.prog 71 #[errV a, errV a] W fun e w' => e = .returned (.bool true) ∧ w' = W := by
  have h := err_same a W
  go_enter Tryz.func71, Tryz.ntmps71
  go_wp2_with fail
  go_ret
  exact ⟨rfl, rfl⟩
theorem alike_other {W : World} {ea : Nat → Addr} (hE : Env W ea) (i j : Nat) (hi : i < 17) (hj : j < 17) (h : i ≠ j) : Calls Tryz.prog 71 #[errV (ea i), errV (ea j)] W fun e w' => e = .returned (.bool false) ∧ w' = W := by
  have h := err_other hE i j hi hj h
  clear hE
  generalize ea i = a at *
  generalize ea j = b at *
  go_enter Tryz.func71, Tryz.ntmps71
  go_wp2_with fail
  go_ret
  exact ⟨rfl, rfl⟩
theorem sentL_at (ea : Nat → Addr) (i : Nat) (h : i < 17) : (sentL ea)[i]? = some (errV (ea (ordE i))) := by
  unfold sentL
  rw [List.getElem?_map, List.getElem?_range h]
  rfl
set_option maxRecDepth 100000 in
set_option maxHeartbeats 1000000 in
theorem sentinel_any (W : World) (ea : Nat → Addr) (hE : Env W ea) (j : Nat) (hj : j < 17) (a : Addr) (ha : a = ea (ordE j)) : Calls Tryz.prog 57 #[errV a] W fun e w' => e = .returned (.int .i64 (101 + j)) ∧ Below W.heap.size W w' := by
  have HE : Hid (Env W ea) := hE
  have HA : Hid (a = ea (ordE j)) := ha
  clear hE ha
  go_enter Tryz.func57, Tryz.ntmps57
  go_wp2_with fail
  refine (sentinels_any _ ea HE.out).mono ?_
  rintro e w1 ⟨rfl, hw1⟩
  have H1 : Hid (Cel w1 W.heap.size 25 (sentL ea).toArray) := by unfold Hid; rw [hw1]; exact Cel.new _ _ _
  have hb1 : Below W.heap.size W w1 := by rw [hw1]; exact below_new _ _
  have HE1 : Hid (Env w1 ea) := HE.out.below hb1
  clear hw1
  go_wp2_with fail
  go_loopw [4] (fun v4 wr => ∃ i : Nat, v4 = .int .i64 i ∧ i ≤ j ∧ w1 = wr) (fun v4 _ => 17 - (intOf v4).toNat)
  case atStart => exact ⟨0, rfl, by omega, rfl⟩
  case round =>
    obtain ⟨i, rfl, hij, hwr⟩ := hrel
    subst hwr
    obtain ⟨b, hbE⟩ : ∃ b, b = ea (ordE i) := ⟨_, rfl⟩
    have c := (H1.out.cell i).trans ((List.getElem?_toArray).trans (sentL_at ea i (by omega)))
    rw [← hbE] at c
    have HB : Hid (b = ea (ordE i)) := hbE
    clear hbE
    have hi17 : (i : Int) < 17 := by omega
    by_cases e : i = j
    · subst e
      obtain rfl : a = b := by rw [HA.out, HB.out]
      go_wp2_with fail
      refine (alike_same _ _).mono ?_
      rintro e w2 ⟨rfl, hw2⟩
      subst hw2
      go_wp2_with fail
      go_ret
      exact ⟨rfl, hb1⟩
    · have HC : Hid (Calls Tryz.prog 71 #[errV a, errV b] w1 fun e w' => e = .returned (.bool false) ∧ w' = w1) := by
        unfold Hid
        rw [HA.out, HB.out]
        exact alike_other HE1.out _ _ (ordE_lt j hj) (ordE_lt i (by omega)) (fun h => e (ordE_inj i (by omega) j hj h.symm))
      go_wp2_with fail
      refine Calls.mono HC.out ?_
      rintro e w2 ⟨rfl, hw2⟩
      subst hw2
      go_wp2_with fail
      exact ⟨⟨i + 1, by simp, by omega, trivial⟩, by simp [intOf]; omega⟩
theorem two_new (W : World) (t1 t2 : TypeId) (a1 a2 : Array Value) : Cel ((W.alloc (.cells a1 t1)).alloc (.cells a2 t2)) W.heap.size t1 a1 ∧ Cel ((W.alloc (.cells a1 t1)).alloc (.cells a2 t2)) (W.heap.size + 1) t2 a2 ∧ ((W.alloc (.cells a1 t1)).alloc (.cells a2 t2)).heap.size = W.heap.size + 2 :=
  ⟨(Cel.new W _ _).below (below_new _ _) (by simp), Cel.new2 _ _ _ _, by simp⟩
theorem size33 : (Tryz.prog.info? 31).map (·.size) = some 2 := by kernel_rfl
theorem bareE_any (c : Int) (W : World) : Calls Tryz.prog 22 #[.int .i64 c] W fun e w' => e = .returned (.agg #[.int .i64 c, .slice none 0 0]) ∧ Below W.heap.size W w' := by
  go_enter Tryz.func22, Tryz.ntmps22
  go_wp2_with fail
  refine bodyPost_ret (results_cell_row (p := 2) (ty := 31) rfl _ _ W.heap.size 31 #[.int .i64 c, .slice none 0 0] (0, 0) _ rfl (Cel.new _ _ _) Tryz.underlying31 rfl size33) rfl ?_
  exact ⟨rfl, below_new _ _⟩
theorem new_size (W : World) (o : Obj) : (W.alloc o).heap.size = W.heap.size + 1 := by simp
set_option maxRecDepth 100000 in
theorem placed_any (c p : Int) (hc : ¬ c = 0) (W : World) : Calls Tryz.prog 18 #[.int .i64 c, .int .i64 p] W fun e w' => ∃ fb, e = .returned (.agg #[.int .i64 c, .slice (some ⟨fb, 0, none⟩) 1 1]) ∧ Cel w' fb 3 #[.int .i64 p] ∧ W.heap.size ≤ fb ∧ Below W.heap.size W w' := by
  go_enter Tryz.func18, Tryz.ntmps18
  go_wp2_with fail
  have hb := below_new W (.cells #[.int .i64 c, .slice (some ⟨W.heap.size + 1, 0, none⟩) 1 1] 31)
  have hc1 : Cel ((W.alloc (.cells #[.int .i64 c, .slice (some ⟨W.heap.size + 1, 0, none⟩) 1 1] 31)).alloc (.cells #[.int .i64 p] 3)) W.heap.size 31 #[.int .i64 c, .slice (some ⟨W.heap.size + 1, 0, none⟩) 1 1] := Cel.below (Cel.new _ _ _) (below_new _ _) (by rw [new_size]; omega)
  have hc2 := Cel.new (W.alloc (.cells #[.int .i64 c, .slice (some ⟨W.heap.size + 1, 0, none⟩) 1 1] 31)) 3 #[.int .i64 p]
  rw [new_size] at hc2
  refine bodyPost_ret (results_cell_row (p := 4) (ty := 31) rfl _ _ W.heap.size 31 _ (0, 0) _ rfl hc1 Tryz.underlying31 rfl size33) rfl ?_
  exact ⟨_, rfl, hc2, by omega, hb.alloc hb.size _⟩
set_option maxRecDepth 100000 in
theorem around_any (c p : Int) (hc : ¬ c = 0) (W : World) : Calls Tryz.prog 56 #[.agg #[.int .i64 c, .slice none 0 0], .int .i64 p] W fun e w' => ∃ fb, e = .returned (.agg #[.int .i64 c, .slice (some ⟨fb, 0, none⟩) 1 1]) ∧ Cel w' fb 3 #[.int .i64 p] ∧ W.heap.size ≤ fb ∧ Below W.heap.size W w' := by
  go_enter Tryz.func56, Tryz.ntmps56
  go_wp2_with fail
  go_region
  go_wp2_with fail
  have hb := below_new W (.cells #[.int .i64 c, .slice none 0 0] 31)
  obtain ⟨w1, hw1⟩ : ∃ w1, w1 = W.alloc (.cells #[.int .i64 c, .slice none 0 0] 31) := ⟨_, rfl⟩
  rw [← hw1] at hb ⊢
  have hz : w1.heap.size = W.heap.size + 1 := by rw [hw1, new_size]
  have hb2 := below_new w1 (.cells #[.int .i64 c, .slice (some ⟨W.heap.size + 1 + 1, 0, none⟩) 1 1] 31)
  have hc1 : Cel ((w1.alloc (.cells #[.int .i64 c, .slice (some ⟨W.heap.size + 1 + 1, 0, none⟩) 1 1] 31)).alloc (.cells #[.int .i64 p] 3)).drew (W.heap.size + 1) 31 #[.int .i64 c, .slice (some ⟨W.heap.size + 1 + 1, 0, none⟩) 1 1] := by
    rw [← hz]
    exact Cel.below (W' := ((w1.alloc _).alloc (.cells #[.int .i64 p] 3)).drew) (Cel.new w1 _ _) (below_new _ (.cells #[.int .i64 p] 3)).drew (by rw [new_size]; omega)
  have hc2 := Cel.new (w1.alloc (.cells #[.int .i64 c, .slice (some ⟨W.heap.size + 1 + 1, 0, none⟩) 1 1] 31)) 3 #[.int .i64 p]
  rw [new_size, hz] at hc2
  refine bodyPost_ret (results_cell_row (p := 4) (ty := 31) rfl _ _ (W.heap.size + 1) 31 _ (0, 0) _ rfl hc1 Tryz.underlying31 rfl size33) rfl ?_
  have hb3 := hb.alloc hb.size (.cells #[.int .i64 c, .slice (some ⟨W.heap.size + 1 + 1, 0, none⟩) 1 1] 31)
  exact ⟨_, rfl, hc2, by omega, (hb3.alloc hb3.size _).drew⟩
theorem assert_no (v : Value) (w : World) : (Instr.typeAssert (.iface 195 v) 25 119 true).run Tryz.prog w = .ok (.tuple #[.pointer none, .bool false]) w := by kernel_rfl
theorem assert_yes (v : Value) (w : World) : (Instr.typeAssert (.iface 119 v) 25 119 true).run Tryz.prog w = .ok (.tuple #[v, .bool true]) w := by kernel_rfl
set_option maxRecDepth 100000 in
set_option maxHeartbeats 1000000 in
theorem fault_sent (W : World) (ea : Nat → Addr) (hE : Env W ea) (j : Nat) (hj : j < 17) (a : Addr) (ha : a = ea (ordE j)) : Calls Tryz.prog 43 #[errV a, .int .i64 8] W fun e w' => e = .returned (.agg #[.int .i64 (101 + j), .slice none 0 0]) ∧ Below W.heap.size W w' := by
  have HS : Hid (∀ W', Below W.heap.size W W' → Calls Tryz.prog 57 #[errV a] W' fun e w' => e = .returned (.int .i64 (101 + j)) ∧ Below W'.heap.size W' w') := fun W' hb => sentinel_any W' ea (hE.below hb) j hj a ha
  clear hE ha
  have hno := assert_no (.pointer (some a))
  go_enter Tryz.func43, Tryz.ntmps43
  go_wp2_with fail
  refine Calls.mono (HS.out _ (below_new _ _)) ?_
  rintro e w1 ⟨rfl, hb1⟩
  have hbw1 := (below_new W (.cells #[.int .i64 0, .slice none 0 0] 31)).trans (hb1.mono (below_new W _).size)
  have HC1 : Hid (Cel w1 W.heap.size 31 #[.int .i64 0, .slice none 0 0]) := Cel.below (Cel.new W 31 #[.int .i64 0, .slice none 0 0]) hb1 (by rw [new_size]; omega)
  clear hb1
  go_wp2_with fail
  refine (bareE_any _ _).mono ?_
  rintro e w2 ⟨rfl, hb2⟩
  have hc2 : Cel w2 W.heap.size 31 #[.int .i64 0, .slice none 0 0] := Cel.below HC1.out hb2 HC1.out.lt
  have hbw2 := hbw1.trans (hb2.mono hbw1.size)
  have HC2 : Hid (Cel w2 W.heap.size 31 #[.int .i64 0, .slice none 0 0]) := hc2
  have c0 := hc2.cell 0
  have f0 := hc2.frozen 0
  have c1 : ∀ v, (w2.setCell ⟨W.heap.size, 0, none⟩ v).cell? ⟨W.heap.size, 1, none⟩ = some (.slice none 0 0) := fun v => (hc2.set (j := 0) v).cell 1
  have f1 : ∀ v, (w2.setCell ⟨W.heap.size, 0, none⟩ v).frozen? ⟨W.heap.size, 1, none⟩ = false := fun v => (hc2.set (j := 0) v).frozen 1
  simp only [List.getElem?_toArray, List.getElem?_cons_zero] at c0
  clear hc2 hb2
  go_wp2_with fail
  refine bodyPost_ret (results_cell_row (p := 4) (ty := 31) rfl _ _ W.heap.size 31 #[.int .i64 (101 + j), .slice none 0 0] (0, 0) _ rfl ((HC2.out.set (j := 0) _).set (j := 1) _) Tryz.underlying31 rfl size33) rfl ?_
  exact ⟨rfl, (hbw2.setCell (p := ⟨W.heap.size, 0, none⟩) (Nat.le_refl _) _).setCell (p := ⟨W.heap.size, 1, none⟩) (Nat.le_refl _) _⟩
def Seen (q b6 : Nat) (c p : Int) (w : World) : Prop := w.cell? ⟨q, 0, none⟩ = some (.int .i64 p) ∧ w.cell? ⟨b6, 0, none⟩ = some (.int .i64 c) ∧ w.cell? ⟨b6, 1, none⟩ = some (.slice none 0 0)
set_option maxRecDepth 100000 in
set_option maxHeartbeats 1000000 in
theorem fault_at (W : World) (ea : Nat → Addr) (hE : Env W ea) (j : Nat) (hj : j < 17) (a : Addr) (ha : a = ea (ordE j)) (q : Nat) (p : Int) (hq : Cel W q 121 #[.int .i64 p, errV a]) :
    Calls Tryz.prog 43 #[.iface 119 (.pointer (some ⟨q, 0, none⟩)), .int .i64 9] W fun e w' => ∃ fb, e = .returned (.agg #[.int .i64 (101 + j), .slice (some ⟨fb, 0, none⟩) 1 1]) ∧ Cel w' fb 3 #[.int .i64 p] ∧ W.heap.size ≤ fb ∧ Below W.heap.size W w' := by
  have HS : Hid (∀ W', Below W.heap.size W W' → Calls Tryz.prog 43 #[errV a, .int .i64 8] W' fun e w' => e = .returned (.agg #[.int .i64 (101 + j), .slice none 0 0]) ∧ Below W'.heap.size W' w') := fun W' hb => fault_sent W' ea (hE.below hb) j hj a ha
  have HQL : Hid (q < W.heap.size) := hq.lt
  have HQ : Hid (∀ W', Below W.heap.size W W' → Cel W' q 121 #[.int .i64 p, errV a]) := fun W' hb => Cel.below hq hb hq.lt
  clear hE ha hq
  have hyes := assert_yes (.pointer (some ⟨q, 0, none⟩))
  have c1 := (HQ.out _ (below_new W (.cells #[.int .i64 0, .slice none 0 0] 31))).cell 1
  simp only [List.getElem?_toArray, List.getElem?_cons_zero, List.getElem?_cons_succ] at c1
  go_enter Tryz.func43, Tryz.ntmps43
  go_wp2_with fail
  refine Calls.mono (HS.out _ (below_new _ _)) ?_
  rintro e w1 ⟨rfl, hb1⟩
  have hbw1 := (below_new W (.cells #[.int .i64 0, .slice none 0 0] 31)).trans (hb1.mono (below_new W _).size)
  have HC1 : Hid (Cel w1 W.heap.size 31 #[.int .i64 0, .slice none 0 0]) := Cel.below (Cel.new W 31 #[.int .i64 0, .slice none 0 0]) hb1 (by rw [new_size]; omega)
  clear hb1 c1
  go_upto_region 9 with fail
  obtain ⟨w2, hw2⟩ : ∃ w2, w2 = w1.alloc (.cells #[.int .i64 (101 + j), .slice none 0 0] 31) := ⟨_, rfl⟩
  have hz2 : w1.heap.size = w1.heap.size := rfl
  have hbw2 : Below W.heap.size W w2 := by rw [hw2]; exact hbw1.alloc hbw1.size _
  have HC2 : Hid (Cel w2 W.heap.size 31 #[.int .i64 0, .slice none 0 0]) := by unfold Hid; rw [hw2]; exact Cel.below HC1.out (below_new _ _) HC1.out.lt
  have H6 : Cel w2 w1.heap.size 31 #[.int .i64 (101 + j), .slice none 0 0] := by rw [hw2]; exact Cel.new _ _ _
  rw [← hw2]
  have d0 := H6.cell 0
  have d1 := H6.cell 1
  have e0 := (HQ.out _ hbw2).cell 0
  simp only [List.getElem?_toArray, List.getElem?_cons_zero, List.getElem?_cons_succ] at d0 d1 e0
  have hlt1 : W.heap.size < w1.heap.size := HC1.out.lt
  have hqlt : q < W.heap.size := HQL.out
  clear hw2 hz2 HC1
  obtain ⟨b6, hb6⟩ : ∃ b6, w1.heap.size = b6 := ⟨_, rfl⟩
  have hb6' : W.heap.size < b6 := by rw [← hb6]; exact hlt1
  rw [hb6] at d0 d1 H6 ⊢
  clear hb6 hbw1
  refine wp_region_held (S := Seen q b6 (101 + (j : Int)) p) (by kernel_rfl) ?_
  change wpAnyH _ _ _ _ _ _ _ _ (World.drew _)
  have hS0 : Seen q b6 (101 + (j : Int)) p (World.drew w2) := ⟨e0, d0, d1⟩
  refine wpAnyH_take (i := 0) (v := .agg #[.int .i64 (101 + (j : Int)), .slice none 0 0]) rfl (by kernel_rfl) (by kernel_rfl) (by kernel_rfl) (fun _ _ _ h => h) (Or.inl ⟨by rfl, fun wz hS => by obtain ⟨s1, s2, s3⟩ := hS; go_simp⟩) hS0 ?_
  try simp only [Act.put, List.getElem_toArray, List.getElem_cons_zero, List.setIfInBounds_toArray, List.set_cons_zero, List.set_cons_succ]
  refine wpAnyH_take (i := 1) (v := .pointer (some ⟨q, 0, none⟩)) rfl (by kernel_rfl) (by kernel_rfl) (by kernel_rfl) (fun _ _ _ h => h) (Yields.yieldsIf (Or.inl ⟨by rfl, by intro wz; go_simp⟩)) hS0 ?_
  try simp only [Act.put, List.getElem_toArray, List.getElem_cons_succ, List.getElem_cons_zero, List.setIfInBounds_toArray, List.set_cons_zero, List.set_cons_succ]
  refine wpAnyH_take (i := 2) (v := .pointer (some ⟨q, 0, none⟩)) rfl (by kernel_rfl) (by kernel_rfl) (by kernel_rfl) (fun _ _ _ h => h) (Yields.yieldsIf (Or.inl ⟨by rfl, by intro wz; go_simp⟩)) hS0 ?_
  try simp only [Act.put, List.getElem_toArray, List.getElem_cons_succ, List.getElem_cons_zero, List.setIfInBounds_toArray, List.set_cons_zero, List.set_cons_succ]
  refine wpAnyH_take (i := 3) (v := .pointer (some ⟨q, 0, none⟩)) rfl (by kernel_rfl) (by kernel_rfl) (by kernel_rfl) (fun _ _ _ h => h) (Yields.yieldsIf (Or.inl ⟨by rfl, by intro wz; go_simp⟩)) hS0 ?_
  try simp only [Act.put, List.getElem_toArray, List.getElem_cons_succ, List.getElem_cons_zero, List.setIfInBounds_toArray, List.set_cons_zero, List.set_cons_succ]
  refine wpAnyH_take (i := 4) (v := .int .i64 p) rfl (by kernel_rfl) (by kernel_rfl) (by kernel_rfl) (fun _ _ _ h => h) (Or.inl ⟨by rfl, fun wz hS => by obtain ⟨s1, s2, s3⟩ := hS; go_simp⟩) hS0 ?_
  try simp only [Act.put, List.getElem_toArray, List.getElem_cons_succ, List.getElem_cons_zero, List.setIfInBounds_toArray, List.set_cons_zero, List.set_cons_succ]
  refine wpAnyH_ready (rs := [5]) (by kernel_rfl) (by simp) ?_
  refine AllReadyH.cons rfl (fun K' hK => ?_) AllReadyH.nil
  go_simp
  refine (around_any (101 + (j : Int)) p (by omega) _).mono ?_
  rintro e w3 ⟨fb, rfl, hfb, hfb2, hb3⟩
  have hfbW : W.heap.size < fb := by have h9 : w2.drew.heap.size = w2.heap.size := rfl; have := HC2.out.lt; omega
  have hq3 : Cel w3 q 121 #[.int .i64 p, errV a] := Cel.below (HQ.out _ hbw2.drew) hb3 (Cel.lt (HQ.out _ hbw2.drew))
  have h63 : Cel w3 b6 31 #[.int .i64 (101 + j), .slice none 0 0] := Cel.below (W := World.drew w2) H6 hb3 H6.lt
  have hr3 : Cel w3 W.heap.size 31 #[.int .i64 0, .slice none 0 0] := Cel.below (W := World.drew w2) HC2.out hb3 HC2.out.lt
  have hbw3 : Below W.heap.size W w3 := hbw2.drew.trans (hb3.mono hbw2.size)
  have hS3 : Seen q b6 (101 + (j : Int)) p w3 := ⟨hq3.cell 0, h63.cell 0, h63.cell 1⟩
  refine hK.out _ _ hS3 (fun _ => ?_)
  clear hK K' hb3 hS0 d0 d1 e0
  refine wpAnyH_ready (rs := [6]) (by kernel_rfl) (by simp) ?_
  refine AllReadyH.cons rfl (fun K' hK => ?_) AllReadyH.nil
  have c0 := hr3.cell 0
  have f0 := hr3.frozen 0
  have c1 : ∀ v, (w3.setCell ⟨W.heap.size, 0, none⟩ v).cell? ⟨W.heap.size, 1, none⟩ = some (.slice none 0 0) := fun v => (hr3.set (j := 0) v).cell 1
  have f1 : ∀ v, (w3.setCell ⟨W.heap.size, 0, none⟩ v).frozen? ⟨W.heap.size, 1, none⟩ = false := fun v => (hr3.set (j := 0) v).frozen 1
  simp only [List.getElem?_toArray, List.getElem?_cons_zero] at c0
  have hqw : q ≠ W.heap.size := by omega
  have HS4 : Hid (Seen q b6 (101 + (j : Int)) p ((w3.setCell ⟨W.heap.size, 0, none⟩ (.int .i64 (101 + (j : Int)))).setCell ⟨W.heap.size, 1, none⟩ (.slice (some ⟨fb, 0, none⟩) 1 1))) :=
    ⟨((hq3.other hqw _).other hqw _).cell 0, ((h63.other (by omega) _).other (by omega) _).cell 0, ((h63.other (by omega) _).other (by omega) _).cell 1⟩
  have HR4 : Hid (Cel ((w3.setCell ⟨W.heap.size, 0, none⟩ (.int .i64 (101 + (j : Int)))).setCell ⟨W.heap.size, 1, none⟩ (.slice (some ⟨fb, 0, none⟩) 1 1)) W.heap.size 31 #[.int .i64 (101 + (j : Int)), .slice (some ⟨fb, 0, none⟩) 1 1]) := (hr3.set (j := 0) _).set (j := 1) _
  clear hr3
  go_simp
  refine hK.out _ _ HS4.out (fun _ => ?_)
  clear hK K'
  refine wpAnyH_done (by kernel_rfl) ?_ _
  go_wp2_with fail
  refine bodyPost_ret (results_cell_row (p := 4) (ty := 31) rfl _ _ W.heap.size 31 _ (0, 0) _ rfl HR4.out Tryz.underlying31 rfl size33) rfl ?_
  exact ⟨fb, rfl, (hfb.other (by omega) _).other (by omega) _, by omega, (hbw3.setCell (p := ⟨W.heap.size, 0, none⟩) (Nat.le_refl _) _).setCell (p := ⟨W.heap.size, 1, none⟩) (Nat.le_refl _) _⟩
set_option maxRecDepth 100000 in
set_option maxHeartbeats 1000000 in
theorem Fault_at (W : World) (ea : Nat → Addr) (hE : Env W ea) (j : Nat) (hj : j < 17) (a : Addr) (ha : a = ea (ordE j)) (q : Nat) (p : Int) (hq : Cel W q 121 #[.int .i64 p, errV a]) :
    Calls Tryz.prog 26 #[.iface 119 (.pointer (some ⟨q, 0, none⟩))] W fun e w' => ∃ fb, e = .returned (.agg #[.int .i64 (101 + j), .slice (some ⟨fb, 0, none⟩) 1 1]) ∧ Cel w' fb 3 #[.int .i64 p] ∧ W.heap.size ≤ fb ∧ Below W.heap.size W w' := by
  have HF : Hid (∀ W', Below W.heap.size W W' → Calls Tryz.prog 43 #[.iface 119 (.pointer (some ⟨q, 0, none⟩)), .int .i64 9] W' fun e w' => ∃ fb, e = .returned (.agg #[.int .i64 (101 + j), .slice (some ⟨fb, 0, none⟩) 1 1]) ∧ Cel w' fb 3 #[.int .i64 p] ∧ W'.heap.size ≤ fb ∧ Below W'.heap.size W' w') :=
    fun W' hb => fault_at W' ea (hE.below hb) j hj a ha q p (Cel.below hq hb hq.lt)
  clear hE ha hq
  go_enter Tryz.func26, Tryz.ntmps26
  go_wp2_with fail
  refine Calls.mono (HF.out _ (below_new _ _)) ?_
  rintro e w1 ⟨fb, rfl, hfb, hfb2, hb1⟩
  have hbw1 := (below_new W (.cells #[.int .i64 0, .slice none 0 0] 31)).trans (hb1.mono (below_new W _).size)
  have hfbW : W.heap.size < fb := by rw [new_size] at hfb2; omega
  have hr3 : Cel w1 W.heap.size 31 #[.int .i64 0, .slice none 0 0] := Cel.below (Cel.new W 31 #[.int .i64 0, .slice none 0 0]) hb1 (by rw [new_size]; omega)
  have c0 := hr3.cell 0
  have f0 := hr3.frozen 0
  have c1 : ∀ v, (w1.setCell ⟨W.heap.size, 0, none⟩ v).cell? ⟨W.heap.size, 1, none⟩ = some (.slice none 0 0) := fun v => (hr3.set (j := 0) v).cell 1
  have f1 : ∀ v, (w1.setCell ⟨W.heap.size, 0, none⟩ v).frozen? ⟨W.heap.size, 1, none⟩ = false := fun v => (hr3.set (j := 0) v).frozen 1
  simp only [List.getElem?_toArray, List.getElem?_cons_zero] at c0
  have HR4 : Hid (Cel ((w1.setCell ⟨W.heap.size, 0, none⟩ (.int .i64 (101 + (j : Int)))).setCell ⟨W.heap.size, 1, none⟩ (.slice (some ⟨fb, 0, none⟩) 1 1)) W.heap.size 31 #[.int .i64 (101 + (j : Int)), .slice (some ⟨fb, 0, none⟩) 1 1]) := (hr3.set (j := 0) _).set (j := 1) _
  clear hr3 hb1 hfb2
  go_wp2_with fail
  refine bodyPost_ret (results_cell_row (p := 2) (ty := 31) rfl _ _ W.heap.size 31 _ (0, 0) _ rfl HR4.out Tryz.underlying31 rfl size33) rfl ?_
  exact ⟨fb, rfl, (hfb.other (by omega) _).other (by omega) _, by omega, (hbw1.setCell (p := ⟨W.heap.size, 0, none⟩) (Nat.le_refl _) _).setCell (p := ⟨W.heap.size, 1, none⟩) (Nat.le_refl _) _⟩
set_option maxRecDepth 100000 in
set_option maxHeartbeats 1000000 in
theorem sameInts_one (fa fb : Nat) (p : Int) (W : World) (ha : Cel W fa 3 #[.int .i64 p]) (hb : Cel W fb 3 #[.int .i64 p]) :
    Calls Tryz.prog 44 #[.slice (some ⟨fa, 0, none⟩) 1 1, .slice (some ⟨fb, 0, none⟩) 1 1] W fun e w' => e = .returned (.bool true) ∧ Below W.heap.size W w' := by
  have HA : Hid (∀ W', Below W.heap.size W W' → Cel W' fa 3 #[.int .i64 p]) := fun W' h => Cel.below ha h ha.lt
  have HB : Hid (∀ W', Below W.heap.size W W' → Cel W' fb 3 #[.int .i64 p]) := fun W' h => Cel.below hb h hb.lt
  clear ha hb
  go_enter Tryz.func44, Tryz.ntmps44
  go_wp2_with fail
  go_loopw [5] (fun v5 wr => ∃ i : Nat, v5 = .int .i64 i ∧ i ≤ 1 ∧ Below W.heap.size W wr) (fun v5 _ => 1 - (intOf v5).toNat)
  case atStart => exact ⟨0, rfl, by omega, Below.refl _ _⟩
  case round =>
    obtain ⟨i, rfl, hi, hbr⟩ := hrel
    have ca := (HA.out _ hbr).cell 0
    have cb := (HB.out _ hbr).cell 0
    simp only [List.getElem?_toArray, List.getElem?_cons_zero] at ca cb
    by_cases h0 : i = 0
    · subst h0
      go_wp2_with fail
      go_quiet (fail)
      go_wp2_with fail
      exact ⟨⟨1, by simp, by omega, hbr.os, hbr.tape, hbr.output, hbr.size, hbr.block⟩, by simp [intOf]⟩
    · obtain rfl : i = 1 := by omega
      go_wp2_with fail
      go_ret
      exact ⟨rfl, hbr⟩
set_option maxRecDepth 100000 in
set_option maxHeartbeats 1000000 in
theorem sameFault_one (fa fb : Nat) (c p : Int) (W : World) (ha : Cel W fa 3 #[.int .i64 p]) (hb : Cel W fb 3 #[.int .i64 p]) :
    Calls Tryz.prog 27 #[.agg #[.int .i64 c, .slice (some ⟨fa, 0, none⟩) 1 1], .agg #[.int .i64 c, .slice (some ⟨fb, 0, none⟩) 1 1]] W fun e w' => e = .returned (.bool true) ∧ Below W.heap.size W w' := by
  have HS : Hid (∀ W', Below W.heap.size W W' → Calls Tryz.prog 44 #[.slice (some ⟨fa, 0, none⟩) 1 1, .slice (some ⟨fb, 0, none⟩) 1 1] W' fun e w' => e = .returned (.bool true) ∧ Below W'.heap.size W' w') := fun W' h => sameInts_one fa fb p W' (Cel.below ha h ha.lt) (Cel.below hb h hb.lt)
  clear ha hb
  have hb1 := below_new W (.cells #[.int .i64 c, .slice (some ⟨fa, 0, none⟩) 1 1] 31)
  have hb2 := hb1.alloc hb1.size (.cells #[.int .i64 c, .slice (some ⟨fb, 0, none⟩) 1 1] 31)
  obtain ⟨q1, q2, _⟩ := two_new W 31 31 #[.int .i64 c, .slice (some ⟨fa, 0, none⟩) 1 1] #[.int .i64 c, .slice (some ⟨fb, 0, none⟩) 1 1]
  have HQ1 : Hid (Cel _ _ _ _) := q1
  have HQ2 : Hid (Cel _ _ _ _) := q2
  clear q1 q2
  go_enter Tryz.func27, Tryz.ntmps27
  go_wp2_with fail
  refine Calls.mono (HS.out _ hb2) ?_
  rintro e w1 ⟨rfl, hb3⟩
  have d1 := (Cel.below (W := (W.alloc (.cells #[.int .i64 c, .slice (some ⟨fa, 0, none⟩) 1 1] 31)).alloc (.cells #[.int .i64 c, .slice (some ⟨fb, 0, none⟩) 1 1] 31)) HQ1.out hb3 (Cel.lt HQ1.out)).cell 0
  have d2 := (Cel.below (W := (W.alloc (.cells #[.int .i64 c, .slice (some ⟨fa, 0, none⟩) 1 1] 31)).alloc (.cells #[.int .i64 c, .slice (some ⟨fb, 0, none⟩) 1 1] 31)) HQ2.out hb3 (Cel.lt HQ2.out)).cell 0
  simp only [List.getElem?_toArray, List.getElem?_cons_zero] at d1 d2
  go_wp2_with fail
  go_ret
  exact ⟨by simp, hb2.trans (hb3.mono hb2.size)⟩
set_option maxRecDepth 100000 in
set_option maxHeartbeats 1000000 in
/-- The error is that fault. -/
theorem same_any (W : World) (ea : Nat → Addr) (hE : Env W ea) (j : Nat) (hj : j < 17) (a : Addr) (ha : a = ea (ordE j)) (q : Nat) (p : Int) (hq : Cel W q 121 #[.int .i64 p, errV a]) (fb : Nat) (hfb : Cel W fb 3 #[.int .i64 p]) (c : Int) (hc : c = 101 + j) :
    Calls Tryz.prog 10 #[.iface 119 (.pointer (some ⟨q, 0, none⟩)), .agg #[.int .i64 c, .slice (some ⟨fb, 0, none⟩) 1 1]] W fun e w' => e = .returned (.bool true) ∧ Below W.heap.size W w' := by
  have HF : Hid (∀ W', Below W.heap.size W W' → Calls Tryz.prog 26 #[.iface 119 (.pointer (some ⟨q, 0, none⟩))] W' fun e w' => ∃ fb, e = .returned (.agg #[.int .i64 c, .slice (some ⟨fb, 0, none⟩) 1 1]) ∧ Cel w' fb 3 #[.int .i64 p] ∧ W'.heap.size ≤ fb ∧ Below W'.heap.size W' w') :=
    fun W' hb => by rw [hc]; exact Fault_at W' ea (hE.below hb) j hj a ha q p (Cel.below hq hb hq.lt)
  have HB : Hid (∀ W', Below W.heap.size W W' → Cel W' fb 3 #[.int .i64 p]) := fun W' h => Cel.below hfb h hfb.lt
  clear hE ha hq hfb hc
  have hb1 := below_new W (.cells #[.int .i64 c, .slice (some ⟨fb, 0, none⟩) 1 1] 31)
  go_enter Tryz.func10, Tryz.ntmps10
  go_wp2_with fail
  refine Calls.mono (HF.out _ hb1) ?_
  rintro e w1 ⟨fa, rfl, hfa, _, hb2⟩
  have hbw1 := hb1.trans (hb2.mono hb1.size)
  have q3 := Cel.below (Cel.new W 31 #[.int .i64 c, .slice (some ⟨fb, 0, none⟩) 1 1]) hb2 (by rw [new_size]; omega)
  have q4 := Cel.below q3 (below_new w1 (.cells #[.int .i64 c, .slice (some ⟨fa, 0, none⟩) 1 1] 31)) q3.lt
  have d0 := q4.cell 0
  have d1 := q4.cell 1
  simp only [List.getElem?_toArray, List.getElem?_cons_zero, List.getElem?_cons_succ] at d0 d1
  have hbw2 := hbw1.alloc hbw1.size (.cells #[.int .i64 c, .slice (some ⟨fa, 0, none⟩) 1 1] 31)
  have HFA : Hid (Cel w1 fa 3 #[.int .i64 p]) := hfa
  clear hfa q3 q4 hb2
  go_wp2_with fail
  refine (sameFault_one fa fb c p _ (Cel.below HFA.out (below_new _ _) HFA.out.lt) (HB.out _ hbw2)).mono ?_
  rintro e w3 ⟨rfl, hb3⟩
  go_wp2_with fail
  go_ret
  exact ⟨rfl, hbw2.trans (hb3.mono hbw2.size)⟩
end Go.Proofs.YtlihkblllakhmaaGreatDoor
