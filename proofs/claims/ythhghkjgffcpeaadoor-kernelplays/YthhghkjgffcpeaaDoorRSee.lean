/- Errors are seen as plain data. -/
import Derived.Test.YthhghkjgffcpeaaDoorMay3
import Derived.BigQuiet
import Derived.BigRegion
import Derived.LaidEql
namespace Go.Proofs.YthhghkjgffcpeaaDoor
open Go.RowKit
attribute [local go_sem] Oper.semAt_some

/-- The document's seventeen errors. -/
structure Er17 (W : World) (ea : Nat → Addr) : Prop where
  cell : ∀ i, i < 17 → W.cell? ⟨i, 0, none⟩ = some (errV (ea i))
  apart : ∀ i j, i < 17 → j < 17 → ea i = ea j → i = j
  row : ∀ i, i < 17 → ∃ c t, W.heap[(ea i).block]? = some (.cells c t (0, 0))
theorem Er17.lt {W : World} {ea : Nat → Addr} (h : Er17 W ea) {i : Nat} (hi : i < 17) : i < W.heap.size := World.block_lt_of_cell? W _ (h.cell i hi)
theorem Er17.below {W W' : World} {ea : Nat → Addr} (h : Er17 W ea) (hb : Below W.heap.size W W') : Er17 W' ea :=
  ⟨fun i hi => (hb.cell (p := ⟨i, 0, none⟩) (h.lt hi)).trans (h.cell i hi), h.apart, fun i hi => by
    obtain ⟨c, t, hc⟩ := h.row i hi
    exact ⟨c, t, (hb.block _ (Array.getElem?_eq_some_iff.1 hc).1).trans hc⟩⟩
theorem Er17.ers {W : World} {ea : Nat → Addr} (h : Er17 W ea) : Ers W ea := fun i hi => ⟨h.cell i (by omega), h.lt (by omega)⟩

/-- Which variable holds the error of a number. -/
def ordE : Nat → Nat
  | 0 => 3 | 1 => 5 | 2 => 6 | 3 => 7 | 4 => 8 | 5 => 2 | 6 => 9 | 7 => 10 | 8 => 11 | 9 => 12 | 10 => 1 | 11 => 13 | 12 => 14 | 13 => 0 | 14 => 15 | 15 => 16 | 16 => 4 | n => n
theorem ordE_lt : ∀ i, i < 17 → ordE i < 17 := by decide
theorem ordE_inj : ∀ i, i < 17 → ∀ j, j < 17 → ordE i = ordE j → i = j := by decide
def sentL (ea : Nat → Addr) : List Value := (List.range 17).map fun i => errV (ea (ordE i))

set_option maxHeartbeats 1000000 in
theorem sentinels_any (W : World) (ea : Nat → Addr) (hE : Er17 W ea) : Calls Tryd.prog 97 #[] W fun e w' => e = .returned (.slice (some ⟨W.heap.size, 0, none⟩) 17 17) ∧ w' = W.alloc (.cells (sentL ea).toArray 32) := by
  have c0 : W.cell? ⟨0, 0, none⟩ = some (errV (ea 0)) := hE.cell 0 (by omega)
  have c1 : W.cell? ⟨1, 0, none⟩ = some (errV (ea 1)) := hE.cell 1 (by omega)
  have c2 : W.cell? ⟨2, 0, none⟩ = some (errV (ea 2)) := hE.cell 2 (by omega)
  have c3 : W.cell? ⟨3, 0, none⟩ = some (errV (ea 3)) := hE.cell 3 (by omega)
  have c4 : W.cell? ⟨4, 0, none⟩ = some (errV (ea 4)) := hE.cell 4 (by omega)
  have c5 : W.cell? ⟨5, 0, none⟩ = some (errV (ea 5)) := hE.cell 5 (by omega)
  have c6 : W.cell? ⟨6, 0, none⟩ = some (errV (ea 6)) := hE.cell 6 (by omega)
  have c7 : W.cell? ⟨7, 0, none⟩ = some (errV (ea 7)) := hE.cell 7 (by omega)
  have c8 : W.cell? ⟨8, 0, none⟩ = some (errV (ea 8)) := hE.cell 8 (by omega)
  have c9 : W.cell? ⟨9, 0, none⟩ = some (errV (ea 9)) := hE.cell 9 (by omega)
  have c10 : W.cell? ⟨10, 0, none⟩ = some (errV (ea 10)) := hE.cell 10 (by omega)
  have c11 : W.cell? ⟨11, 0, none⟩ = some (errV (ea 11)) := hE.cell 11 (by omega)
  have c12 : W.cell? ⟨12, 0, none⟩ = some (errV (ea 12)) := hE.cell 12 (by omega)
  have c13 : W.cell? ⟨13, 0, none⟩ = some (errV (ea 13)) := hE.cell 13 (by omega)
  have c14 : W.cell? ⟨14, 0, none⟩ = some (errV (ea 14)) := hE.cell 14 (by omega)
  have c15 : W.cell? ⟨15, 0, none⟩ = some (errV (ea 15)) := hE.cell 15 (by omega)
  have c16 : W.cell? ⟨16, 0, none⟩ = some (errV (ea 16)) := hE.cell 16 (by omega)
  clear hE
  go_enter Tryd.func97, Tryd.ntmps97
  go_wp2_with fail
  go_ret
  exact ⟨rfl, rfl⟩
theorem info153 : ∃ i, Tryd.prog.info? 153 = some i ∧ i.comparable = true := by
  have h : (Tryd.prog.info? 153).map (·.comparable) = some true := by kernel_rfl
  obtain ⟨i, hi, hc⟩ := Option.map_eq_some_iff.1 h
  exact ⟨i, hi, hc⟩
theorem info169 : ∃ i, Tryd.prog.info? 169 = some i ∧ i.size ≠ 0 := by
  have h : (Tryd.prog.info? 169).map (·.size) = some 1 := by kernel_rfl
  obtain ⟨i, hi, hc⟩ := Option.map_eq_some_iff.1 h
  exact ⟨i, hi, by rw [hc]; decide⟩
theorem err_same (a : Addr) (w : World) : (binOp .eql 32 (errV a) (errV a)).run Tryd.prog w = .ok (.bool true) w := by
  obtain ⟨i, hi, hc⟩ := info153
  obtain ⟨j, hj, _⟩ := info169
  exact run_eql_iface_ptr_same w a Tryd.underlying32 Tryd.underlying153 hi hc hj
theorem err_other {W : World} {ea : Nat → Addr} (hE : Er17 W ea) (i j : Nat) (hi : i < 17) (hj : j < 17) (h : i ≠ j) : (binOp .eql 32 (errV (ea i)) (errV (ea j))).run Tryd.prog W = .ok (.bool false) W := by
  obtain ⟨i0, hi0, hc⟩ := info153
  obtain ⟨j0, hj0, hz⟩ := info169
  obtain ⟨c1, t1, h1⟩ := hE.row i hi
  obtain ⟨c2, t2, h2⟩ := hE.row j hj
  exact run_eql_iface_ptr_other W Tryd.underlying32 Tryd.underlying153 hi0 hc hj0 hz (fun e => h (hE.apart i j hi hj e)) h1 h2
theorem alike_same (a : Addr) (W : World) : Calls Tryd.prog 98 #[errV a, errV a] W fun e w' => e = .returned (.bool true) ∧ w' = W := by
  have h := err_same a W
  go_enter Tryd.func98, Tryd.ntmps98
  go_wp2_with fail
  go_ret
  exact ⟨rfl, rfl⟩
theorem alike_other {W : World} {ea : Nat → Addr} (hE : Er17 W ea) (i j : Nat) (hi : i < 17) (hj : j < 17) (h : i ≠ j) : Calls Tryd.prog 98 #[errV (ea i), errV (ea j)] W fun e w' => e = .returned (.bool false) ∧ w' = W := by
  have h := err_other hE i j hi hj h
  clear hE
  generalize ea i = a at *
  generalize ea j = b at *
  go_enter Tryd.func98, Tryd.ntmps98
  go_wp2_with fail
  go_ret
  exact ⟨rfl, rfl⟩
theorem sentL_at (ea : Nat → Addr) (i : Nat) (h : i < 17) : (sentL ea)[i]? = some (errV (ea (ordE i))) := by
  unfold sentL
  rw [List.getElem?_map, List.getElem?_range h]
  rfl
set_option maxRecDepth 100000 in
set_option maxHeartbeats 1000000 in
theorem sentinel_any (W : World) (ea : Nat → Addr) (hE : Er17 W ea) (j : Nat) (hj : j < 17) (a : Addr) (ha : a = ea (ordE j)) : Calls Tryd.prog 85 #[errV a] W fun e w' => e = .returned (.int .i64 (101 + j)) ∧ Below W.heap.size W w' := by
  have HE : Hid (Er17 W ea) := hE
  have HA : Hid (a = ea (ordE j)) := ha
  clear hE ha
  go_enter Tryd.func85, Tryd.ntmps85
  go_wp2_with fail
  refine (sentinels_any _ ea HE.out).mono ?_
  rintro e w1 ⟨rfl, hw1⟩
  have H1 : Hid (Cel w1 W.heap.size 32 (sentL ea).toArray) := by unfold Hid; rw [hw1]; exact Cel.new _ _ _
  have hb1 : Below W.heap.size W w1 := by rw [hw1]; exact below_new _ _
  have HE1 : Hid (Er17 w1 ea) := HE.out.below hb1
  clear hw1
  go_wp2_with fail
  go_loopw [4] (fun v4 wr => ∃ i : Nat, v4 = .int .i64 i ∧ i ≤ j ∧ w1 = wr) (fun v4 _ => 17 - (intOf v4).toNat)
  case atStart => exact ⟨0, rfl, by omega, rfl⟩
  case round =>
    obtain ⟨i, rfl, hij, hwr⟩ := hrel
    subst hwr
    obtain ⟨b, hbE⟩ : ∃ b, b = ea (ordE i) := ⟨_, rfl⟩
    have c := (H1.out.cell i).trans ((List.getElem?_toArray).trans (sentL_at ea i (by omega)))
    rw [← hbE] at c
    have HB : Hid (b = ea (ordE i)) := hbE
    clear hbE
    have hi17 : (i : Int) < 17 := by omega
    by_cases e : i = j
    · subst e
      obtain rfl : a = b := by rw [HA.out, HB.out]
      go_wp2_with fail
      refine (alike_same _ _).mono ?_
      rintro e w2 ⟨rfl, hw2⟩
      subst hw2
      go_wp2_with fail
      go_ret
      exact ⟨rfl, hb1⟩
    · have HC : Hid (Calls Tryd.prog 98 #[errV a, errV b] w1 fun e w' => e = .returned (.bool false) ∧ w' = w1) := by
        unfold Hid
        rw [HA.out, HB.out]
        exact alike_other HE1.out _ _ (ordE_lt j hj) (ordE_lt i (by omega)) (fun h => e (ordE_inj i (by omega) j hj h.symm))
      go_wp2_with fail
      refine Calls.mono HC.out ?_
      rintro e w2 ⟨rfl, hw2⟩
      subst hw2
      go_wp2_with fail
      exact ⟨⟨i + 1, by simp, by omega, trivial⟩, by simp [intOf]; omega⟩
theorem size85 : (Tryd.prog.info? 85).map (·.size) = some 2 := by kernel_rfl
theorem bare_any (c : Int) (W : World) : Calls Tryd.prog 43 #[.int .i64 c] W fun e w' => e = .returned (.agg #[.int .i64 c, .slice none 0 0]) ∧ Below W.heap.size W w' := by
  go_enter Tryd.func43, Tryd.ntmps43
  go_wp2_with fail
  refine bodyPost_ret (results_cell_row (p := 2) (ty := 85) rfl _ _ W.heap.size 85 #[.int .i64 c, .slice none 0 0] (0, 0) _ rfl (Cel.new _ _ _) Tryd.underlying85 rfl size85) rfl ?_
  exact ⟨rfl, below_new _ _⟩
theorem none_any (W : World) : Calls Tryd.prog 76 #[] W fun e w' => e = .returned (.agg #[.int .i64 0, .slice none 0 0]) ∧ Below W.heap.size W w' := by
  go_enter Tryd.func76, Tryd.ntmps76
  go_wp2_with fail
  refine bodyPost_ret (results_cell_row (p := 0) (ty := 85) rfl _ _ W.heap.size 85 #[.int .i64 0, .slice none 0 0] (0, 0) _ rfl (Cel.new _ _ _) Tryd.underlying85 rfl size85) rfl ?_
  exact ⟨rfl, below_new _ _⟩
theorem new_size (W : World) (o : Obj) : (W.alloc o).heap.size = W.heap.size + 1 := by simp
theorem assert_no (v : Value) (w : World) : (Instr.typeAssert (.iface 153 v) 32 124 true).run Tryd.prog w = .ok (.tuple #[.pointer none, .bool false]) w := by kernel_rfl
set_option maxRecDepth 100000 in
set_option maxHeartbeats 1000000 in
theorem fault_sent (W : World) (ea : Nat → Addr) (hE : Er17 W ea) (j : Nat) (hj : j < 17) (a : Addr) (ha : a = ea (ordE j)) : Calls Tryd.prog 77 #[errV a, .int .i64 9] W fun e w' => e = .returned (.agg #[.int .i64 (101 + j), .slice none 0 0]) ∧ Below W.heap.size W w' := by
  have HS : Hid (∀ W', Below W.heap.size W W' → Calls Tryd.prog 85 #[errV a] W' fun e w' => e = .returned (.int .i64 (101 + j)) ∧ Below W'.heap.size W' w') := fun W' hb => sentinel_any W' ea (hE.below hb) j hj a ha
  clear hE ha
  have hno := assert_no (.pointer (some a))
  go_enter Tryd.func77, Tryd.ntmps77
  go_wp2_with fail
  refine Calls.mono (HS.out _ (below_new _ _)) ?_
  rintro e w1 ⟨rfl, hb1⟩
  have hbw1 := (below_new W (.cells #[.int .i64 0, .slice none 0 0] 85)).trans (hb1.mono (below_new W _).size)
  have HC1 : Hid (Cel w1 W.heap.size 85 #[.int .i64 0, .slice none 0 0]) := Cel.below (Cel.new W 85 #[.int .i64 0, .slice none 0 0]) hb1 (by rw [new_size]; omega)
  clear hb1
  go_wp2_with fail
  refine (bare_any _ _).mono ?_
  rintro e w2 ⟨rfl, hb2⟩
  have hc2 : Cel w2 W.heap.size 85 #[.int .i64 0, .slice none 0 0] := Cel.below HC1.out hb2 HC1.out.lt
  have hbw2 := hbw1.trans (hb2.mono hbw1.size)
  have HC2 : Hid (Cel w2 W.heap.size 85 #[.int .i64 0, .slice none 0 0]) := hc2
  have c0 := hc2.cell 0
  have f0 := hc2.frozen 0
  have c1 : ∀ v, (w2.setCell ⟨W.heap.size, 0, none⟩ v).cell? ⟨W.heap.size, 1, none⟩ = some (.slice none 0 0) := fun v => (hc2.set (j := 0) v).cell 1
  have f1 : ∀ v, (w2.setCell ⟨W.heap.size, 0, none⟩ v).frozen? ⟨W.heap.size, 1, none⟩ = false := fun v => (hc2.set (j := 0) v).frozen 1
  simp only [List.getElem?_toArray, List.getElem?_cons_zero] at c0
  clear hc2 hb2
  go_wp2_with fail
  refine bodyPost_ret (results_cell_row (p := 4) (ty := 85) rfl _ _ W.heap.size 85 #[.int .i64 (101 + j), .slice none 0 0] (0, 0) _ rfl ((HC2.out.set (j := 0) _).set (j := 1) _) Tryd.underlying85 rfl size85) rfl ?_
  exact ⟨rfl, (hbw2.setCell (p := ⟨W.heap.size, 0, none⟩) (Nat.le_refl _) _).setCell (p := ⟨W.heap.size, 1, none⟩) (Nat.le_refl _) _⟩
/-- The number of an error by its place. -/
def codeR : Option Nat → Int
  | some 1 => 111
  | some 2 => 106
  | some 3 => 101
  | some 4 => 117
  | _ => 0
/-- No error, or one of four. -/
def Four (r : Option Nat) : Prop := r = none ∨ r = some 1 ∨ r = some 2 ∨ r = some 3 ∨ r = some 4
set_option maxRecDepth 100000 in
set_option maxHeartbeats 1000000 in
theorem Fault_sent (W : World) (ea : Nat → Addr) (hE : Er17 W ea) (j : Nat) (hj : j < 17) (a : Addr) (ha : a = ea (ordE j)) : Calls Tryd.prog 63 #[errV a] W fun e w' => e = .returned (.agg #[.int .i64 (101 + j), .slice none 0 0]) ∧ Below W.heap.size W w' := by
  have HF : Hid (∀ W', Below W.heap.size W W' → Calls Tryd.prog 77 #[errV a, .int .i64 9] W' fun e w' => e = .returned (.agg #[.int .i64 (101 + j), .slice none 0 0]) ∧ Below W'.heap.size W' w') := fun W' hb => fault_sent W' ea (hE.below hb) j hj a ha
  clear hE ha
  go_enter Tryd.func63, Tryd.ntmps63
  go_wp2_with fail
  refine Calls.mono (HF.out _ (below_new _ _)) ?_
  rintro e w1 ⟨rfl, hb1⟩
  have hbw1 := (below_new W (.cells #[.int .i64 0, .slice none 0 0] 85)).trans (hb1.mono (below_new W _).size)
  have hr3 : Cel w1 W.heap.size 85 #[.int .i64 0, .slice none 0 0] := Cel.below (Cel.new W 85 #[.int .i64 0, .slice none 0 0]) hb1 (by rw [new_size]; omega)
  have c0 := hr3.cell 0
  have f0 := hr3.frozen 0
  have c1 : ∀ v, (w1.setCell ⟨W.heap.size, 0, none⟩ v).cell? ⟨W.heap.size, 1, none⟩ = some (.slice none 0 0) := fun v => (hr3.set (j := 0) v).cell 1
  have f1 : ∀ v, (w1.setCell ⟨W.heap.size, 0, none⟩ v).frozen? ⟨W.heap.size, 1, none⟩ = false := fun v => (hr3.set (j := 0) v).frozen 1
  simp only [List.getElem?_toArray, List.getElem?_cons_zero] at c0
  have HR4 : Hid (Cel ((w1.setCell ⟨W.heap.size, 0, none⟩ (.int .i64 (101 + (j : Int)))).setCell ⟨W.heap.size, 1, none⟩ (.slice none 0 0)) W.heap.size 85 #[.int .i64 (101 + (j : Int)), .slice none 0 0]) := (hr3.set (j := 0) _).set (j := 1) _
  clear hr3 hb1
  go_wp2_with fail
  refine bodyPost_ret (results_cell_row (p := 2) (ty := 85) rfl _ _ W.heap.size 85 _ (0, 0) _ rfl HR4.out Tryd.underlying85 rfl size85) rfl ?_
  exact ⟨rfl, (hbw1.setCell (p := ⟨W.heap.size, 0, none⟩) (Nat.le_refl _) _).setCell (p := ⟨W.heap.size, 1, none⟩) (Nat.le_refl _) _⟩
set_option maxRecDepth 100000 in
set_option maxHeartbeats 1000000 in
theorem Fault_none (W : World) : Calls Tryd.prog 63 #[.nilIface] W fun e w' => e = .returned (.agg #[.int .i64 0, .slice none 0 0]) ∧ Below W.heap.size W w' := by
  go_enter Tryd.func63, Tryd.ntmps63
  go_wp2_with fail
  refine (none_any _).mono ?_
  rintro e w1 ⟨rfl, hb1⟩
  have hbw1 := (below_new W (.cells #[.int .i64 0, .slice none 0 0] 85)).trans (hb1.mono (below_new W _).size)
  have hr3 : Cel w1 W.heap.size 85 #[.int .i64 0, .slice none 0 0] := Cel.below (Cel.new W 85 #[.int .i64 0, .slice none 0 0]) hb1 (by rw [new_size]; omega)
  have c0 := hr3.cell 0
  have f0 := hr3.frozen 0
  have c1 : ∀ v, (w1.setCell ⟨W.heap.size, 0, none⟩ v).cell? ⟨W.heap.size, 1, none⟩ = some (.slice none 0 0) := fun v => (hr3.set (j := 0) v).cell 1
  have f1 : ∀ v, (w1.setCell ⟨W.heap.size, 0, none⟩ v).frozen? ⟨W.heap.size, 1, none⟩ = false := fun v => (hr3.set (j := 0) v).frozen 1
  simp only [List.getElem?_toArray, List.getElem?_cons_zero] at c0
  have HR4 : Hid (Cel ((w1.setCell ⟨W.heap.size, 0, none⟩ (.int .i64 0)).setCell ⟨W.heap.size, 1, none⟩ (.slice none 0 0)) W.heap.size 85 #[.int .i64 0, .slice none 0 0]) := (hr3.set (j := 0) _).set (j := 1) _
  clear hr3 hb1
  go_wp2_with fail
  refine bodyPost_ret (results_cell_row (p := 2) (ty := 85) rfl _ _ W.heap.size 85 _ (0, 0) _ rfl HR4.out Tryd.underlying85 rfl size85) rfl ?_
  exact ⟨rfl, (hbw1.setCell (p := ⟨W.heap.size, 0, none⟩) (Nat.le_refl _) _).setCell (p := ⟨W.heap.size, 1, none⟩) (Nat.le_refl _) _⟩
theorem Fault_few (W : World) (ea : Nat → Addr) (hE : Er17 W ea) (r : Option Nat) (hr : Four r) : Calls Tryd.prog 63 #[errO ea r] W fun e w' => e = .returned (.agg #[.int .i64 (codeR r), .slice none 0 0]) ∧ Below W.heap.size W w' := by
  rcases hr with rfl | rfl | rfl | rfl | rfl
  · exact Fault_none W
  · exact Fault_sent W ea hE 10 (by decide) _ rfl
  · exact Fault_sent W ea hE 5 (by decide) _ rfl
  · exact Fault_sent W ea hE 0 (by decide) _ rfl
  · exact Fault_sent W ea hE 16 (by decide) _ rfl
set_option maxRecDepth 100000 in
theorem sameInts_nil (W : World) : Calls Tryd.prog 78 #[.slice none 0 0, .slice none 0 0] W fun e w' => e = .returned (.bool true) ∧ w' = W := by
  go_enter Tryd.func78, Tryd.ntmps78
  go_wp2_with fail
  go_loopw [5] (fun v5 wr => v5 = .int .i64 0 ∧ wr = W) (fun _ _ => 0)
  case atStart => exact ⟨rfl, rfl⟩
  case round =>
    obtain ⟨rfl, rfl⟩ := hrel
    go_wp2_with fail
    go_ret
    exact ⟨rfl, rfl⟩
set_option maxRecDepth 100000 in
set_option maxHeartbeats 1000000 in
theorem sameFault_bare (c : Int) (W : World) :
    Calls Tryd.prog 64 #[.agg #[.int .i64 c, .slice none 0 0], .agg #[.int .i64 c, .slice none 0 0]] W fun e w' => e = .returned (.bool true) ∧ Below W.heap.size W w' := by
  have hb1 := below_new W (.cells #[.int .i64 c, .slice none 0 0] 85)
  have hb2 := hb1.alloc hb1.size (.cells #[.int .i64 c, .slice none 0 0] 85)
  have HB : Hid (Below W.heap.size W ((W.alloc (.cells #[.int .i64 c, .slice none 0 0] 85)).alloc (.cells #[.int .i64 c, .slice none 0 0] 85))) := hb2
  clear hb1 hb2
  go_enter Tryd.func64, Tryd.ntmps64
  go_wp2_with fail
  refine (sameInts_nil _).mono ?_
  rintro e w1 ⟨rfl, hw1⟩
  subst hw1
  go_wp2_with fail
  go_ret
  exact ⟨by simp, HB.out⟩
set_option maxRecDepth 100000 in
set_option maxHeartbeats 1000000 in
/-- The error is the one of its number. -/
theorem is_few (W : World) (ea : Nat → Addr) (hE : Er17 W ea) (r : Option Nat) (hr : Four r) : Calls Tryd.prog 13 #[errO ea r, .int .i64 (codeR r)] W fun e w' => e = .returned (.bool true) ∧ Below W.heap.size W w' := by
  have HF : Hid (∀ W', Below W.heap.size W W' → Calls Tryd.prog 63 #[errO ea r] W' fun e w' => e = .returned (.agg #[.int .i64 (codeR r), .slice none 0 0]) ∧ Below W'.heap.size W' w') := fun W' hb => Fault_few W' ea (hE.below hb) r hr
  clear hE hr
  generalize errO ea r = ev at *
  generalize codeR r = c at *
  have HS : Hid (∀ W', Below W.heap.size W W' → Calls Tryd.prog 42 #[ev, .agg #[.int .i64 c, .slice none 0 0]] W' fun e w' => e = .returned (.bool true) ∧ Below W'.heap.size W' w') := by
    intro W1 hbW
    have hb1 := below_new W1 (.cells #[.int .i64 c, .slice none 0 0] 85)
    have HF1 : Hid _ := HF.out _ (hbW.trans (hb1.mono hbW.size))
    have hbs := hb1.size
    clear hbW
    go_enter Tryd.func42, Tryd.ntmps42
    go_wp2_with fail
    refine Calls.mono HF1.out ?_
    rintro e w1 ⟨rfl, hb2⟩
    have hbw1 := hb1.trans (hb2.mono hb1.size)
    have q3 := Cel.below (Cel.new W1 85 #[.int .i64 c, .slice none 0 0]) hb2 (by rw [new_size]; omega)
    have q4 := Cel.below q3 (below_new w1 (.cells #[.int .i64 c, .slice none 0 0] 85)) q3.lt
    have d0 := q4.cell 0
    have d1 := q4.cell 1
    simp only [List.getElem?_toArray, List.getElem?_cons_zero, List.getElem?_cons_succ] at d0 d1
    have hbw2 := hbw1.alloc hbw1.size (.cells #[.int .i64 c, .slice none 0 0] 85)
    clear q3 q4 hb2
    go_wp2_with fail
    refine (sameFault_bare c _).mono ?_
    rintro e w3 ⟨rfl, hb3⟩
    go_wp2_with fail
    go_ret
    exact ⟨rfl, hbw2.trans (hb3.mono hbw2.size)⟩
  go_enter Tryd.func13, Tryd.ntmps13
  go_wp2_with fail
  refine (bare_any c W).mono ?_
  rintro e w1 ⟨rfl, hb1⟩
  go_wp2_with fail
  refine Calls.mono (HS.out _ hb1) ?_
  rintro e w2 ⟨rfl, hb2⟩
  go_wp2_with fail
  go_ret
  exact ⟨rfl, hb1.trans (hb2.mono hb1.size)⟩
end Go.Proofs.YthhghkjgffcpeaaDoor
