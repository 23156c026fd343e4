/- Light for many lists; the law's own comparison; Pick. -/
import Derived.Test.YtdajacodfnidfaaGreatDoorGrpL
import Derived.BigQuiet
import Derived.BigRegion
import Derived.LaidEql
import Derived.Test.YtdajacodfnidfaaGreatDoorRL4
import Derived.OwnWalk
/-! Errors are seen as plain data. -/
namespace Go.Proofs.YtdajacodfnidfaaGreatDoor
open Go.RowKit Go.Shelf
attribute [local go_sem] Oper.semAt_some

/-- Where the error of a number lies. -/
def gE : Nat → Nat
  | 0 => 0
  | n + 1 => n + 5
abbrev errV (a : Addr) : Value := .iface 179 (.pointer (some a))
/-- The document's seventeen errors. -/
structure Er17 (W : World) (ea : Nat → Addr) : Prop where
  cell : ∀ i, i < 17 → W.cell? ⟨gE i, 0, none⟩ = some (errV (ea i))
  apart : ∀ i j, i < 17 → j < 17 → ea i = ea j → i = j
  row : ∀ i, i < 17 → ∃ c t, W.heap[(ea i).block]? = some (.cells c t (0, 0))
theorem Er17.lt {W : World} {ea : Nat → Addr} (h : Er17 W ea) {i : Nat} (hi : i < 17) : gE i < W.heap.size := World.block_lt_of_cell? W _ (h.cell i hi)
theorem Er17.below {W W' : World} {ea : Nat → Addr} (h : Er17 W ea) (hb : Below W.heap.size W W') : Er17 W' ea :=
  ⟨fun i hi => (hb.cell (p := ⟨gE i, 0, none⟩) (h.lt hi)).trans (h.cell i hi), h.apart, fun i hi => by
    obtain ⟨c, t, hc⟩ := h.row i hi
    exact ⟨c, t, (hb.block _ (Array.getElem?_eq_some_iff.1 hc).1).trans hc⟩⟩
theorem Er17.big {W : World} {ea : Nat → Addr} (h : Er17 W ea) : Eb W (ea 0) := ⟨h.cell 0 (by omega), h.lt (i := 0) (by omega)⟩

/-- Which variable holds the error of a number. -/
def ordE : Nat → Nat
  | 0 => 1 | 1 => 2 | 2 => 3 | 3 => 4 | 4 => 5 | 5 => 6 | 6 => 7 | 7 => 8 | 8 => 9 | 9 => 10 | 10 => 11 | 11 => 12 | 12 => 13 | 13 => 0 | n => n
theorem ordE_lt : ∀ i, i < 17 → ordE i < 17 := by decide
theorem ordE_inj : ∀ i, i < 17 → ∀ j, j < 17 → ordE i = ordE j → i = j := by decide
def sentL (ea : Nat → Addr) : List Value := (List.range 17).map fun i => errV (ea (ordE i))

set_option maxHeartbeats 1000000 in
theorem sentinels_any (W : World) (ea : Nat → Addr) (hE : Er17 W ea) : Calls Tryz.prog 144 #[] W fun e w' => e = .returned (.slice (some ⟨W.heap.size, 0, none⟩) 17 17) ∧ w' = W.alloc (.cells (sentL ea).toArray 27) := by
  have c0 : W.cell? ⟨0, 0, none⟩ = some (errV (ea 0)) := hE.cell 0 (by omega)
  have c1 : W.cell? ⟨5, 0, none⟩ = some (errV (ea 1)) := hE.cell 1 (by omega)
  have c2 : W.cell? ⟨6, 0, none⟩ = some (errV (ea 2)) := hE.cell 2 (by omega)
  have c3 : W.cell? ⟨7, 0, none⟩ = some (errV (ea 3)) := hE.cell 3 (by omega)
  have c4 : W.cell? ⟨8, 0, none⟩ = some (errV (ea 4)) := hE.cell 4 (by omega)
  have c5 : W.cell? ⟨9, 0, none⟩ = some (errV (ea 5)) := hE.cell 5 (by omega)
  have c6 : W.cell? ⟨10, 0, none⟩ = some (errV (ea 6)) := hE.cell 6 (by omega)
  have c7 : W.cell? ⟨11, 0, none⟩ = some (errV (ea 7)) := hE.cell 7 (by omega)
  have c8 : W.cell? ⟨12, 0, none⟩ = some (errV (ea 8)) := hE.cell 8 (by omega)
  have c9 : W.cell? ⟨13, 0, none⟩ = some (errV (ea 9)) := hE.cell 9 (by omega)
  have c10 : W.cell? ⟨14, 0, none⟩ = some (errV (ea 10)) := hE.cell 10 (by omega)
  have c11 : W.cell? ⟨15, 0, none⟩ = some (errV (ea 11)) := hE.cell 11 (by omega)
  have c12 : W.cell? ⟨16, 0, none⟩ = some (errV (ea 12)) := hE.cell 12 (by omega)
  have c13 : W.cell? ⟨17, 0, none⟩ = some (errV (ea 13)) := hE.cell 13 (by omega)
  have c14 : W.cell? ⟨18, 0, none⟩ = some (errV (ea 14)) := hE.cell 14 (by omega)
  have c15 : W.cell? ⟨19, 0, none⟩ = some (errV (ea 15)) := hE.cell 15 (by omega)
  have c16 : W.cell? ⟨20, 0, none⟩ = some (errV (ea 16)) := hE.cell 16 (by omega)
  clear hE
  go_enter Tryz.func144, Tryz.ntmps144
  go_wp2_with fail
  go_ret
  exact ⟨rfl, rfl⟩
theorem info153 : ∃ i, Tryz.prog.info? 179 = some i ∧ i.comparable = true := by
  have h : (Tryz.prog.info? 179).map (·.comparable) = some true := by kernel_rfl
  obtain ⟨i, hi, hc⟩ := Option.map_eq_some_iff.1 h
  exact ⟨i, hi, hc⟩
theorem info169 : ∃ i, Tryz.prog.info? 194 = some i ∧ i.size ≠ 0 := by
  have h : (Tryz.prog.info? 194).map (·.size) = some 1 := by kernel_rfl
  obtain ⟨i, hi, hc⟩ := Option.map_eq_some_iff.1 h
  exact ⟨i, hi, by rw [hc]; decide⟩
theorem err_same (a : Addr) (w : World) : (binOp .eql 27 (errV a) (errV a)).run Tryz.prog w = .ok (.bool true) w := by
  obtain ⟨i, hi, hc⟩ := info153
  obtain ⟨j, hj, _⟩ := info169
  exact run_eql_iface_ptr_same w a Tryz.underlying27 Tryz.underlying179 hi hc hj
theorem err_other {W : World} {ea : Nat → Addr} (hE : Er17 W ea) (i j : Nat) (hi : i < 17) (hj : j < 17) (h : i ≠ j) : (binOp .eql 27 (errV (ea i)) (errV (ea j))).run Tryz.prog W = .ok (.bool false) W := by
  obtain ⟨i0, hi0, hc⟩ := info153
  obtain ⟨j0, hj0, hz⟩ := info169
  obtain ⟨c1, t1, h1⟩ := hE.row i hi
  obtain ⟨c2, t2, h2⟩ := hE.row j hj
  exact run_eql_iface_ptr_other W Tryz.underlying27 Tryz.underlying179 hi0 hc hj0 hz (fun e => h (hE.apart i j hi hj e)) h1 h2
theorem alike_same (a : Addr) (W : World) : Calls Tryz.prog 145 #[errV a, errV a] W fun e w' => e = .returned (.bool true) ∧ w' = W := by
  have h := err_same a W
  go_enter Tryz.func145, Tryz.ntmps145
  go_wp2_with fail
  go_ret
  exact ⟨rfl, rfl⟩
theorem alike_other {W : World} {ea : Nat → Addr} (hE : Er17 W ea) (i j : Nat) (hi : i < 17) (hj : j < 17) (h : i ≠ j) : Calls Tryz.prog 145 #[errV (ea i), errV (ea j)] W fun e w' => e = .returned (.bool false) ∧ w' = W := by
  have h := err_other hE i j hi hj h
  clear hE
  generalize ea i = a at *
  generalize ea j = b at *
  go_enter Tryz.func145, Tryz.ntmps145
  go_wp2_with fail
  go_ret
  exact ⟨rfl, rfl⟩
theorem sentL_at (ea : Nat → Addr) (i : Nat) (h : i < 17) : (sentL ea)[i]? = some (errV (ea (ordE i))) := by
  unfold sentL
  rw [List.getElem?_map, List.getElem?_range h]
  rfl
set_option maxRecDepth 100000 in
set_option maxHeartbeats 1000000 in
theorem sentinel_any (W : World) (ea : Nat → Addr) (hE : Er17 W ea) (j : Nat) (hj : j < 17) (a : Addr) (ha : a = ea (ordE j)) : Calls Tryz.prog 122 #[errV a] W fun e w' => e = .returned (.int .i64 (101 + j)) ∧ Below W.heap.size W w' := by
  have HE : Hid (Er17 W ea) := hE
  have HA : Hid (a = ea (ordE j)) := ha
  clear hE ha
  go_enter Tryz.func122, Tryz.ntmps122
  go_wp2_with fail
  refine (sentinels_any _ ea HE.out).mono ?_
  rintro e w1 ⟨rfl, hw1⟩
  have H1 : Hid (Cel w1 W.heap.size 27 (sentL ea).toArray) := by unfold Hid; rw [hw1]; exact Cel.new _ _ _
  have hb1 : Below W.heap.size W w1 := by rw [hw1]; exact below_new _ _
  have HE1 : Hid (Er17 w1 ea) := HE.out.below hb1
  clear hw1
  go_wp2_with fail
  go_loopw [4] (fun v4 wr => ∃ i : Nat, v4 = .int .i64 i ∧ i ≤ j ∧ w1 = wr) (fun v4 _ => 17 - (intOf v4).toNat)
  case atStart => exact ⟨0, rfl, by omega, rfl⟩
  case round =>
    obtain ⟨i, rfl, hij, hwr⟩ := hrel
    subst hwr
    obtain ⟨b, hbE⟩ : ∃ b, b = ea (ordE i) := ⟨_, rfl⟩
    have c := (H1.out.cell i).trans ((List.getElem?_toArray).trans (sentL_at ea i (by omega)))
    rw [← hbE] at c
    have HB : Hid (b = ea (ordE i)) := hbE
    clear hbE
    have hi17 : (i : Int) < 17 := by omega
    by_cases e : i = j
    · subst e
      obtain rfl : a = b := by rw [HA.out, HB.out]
      go_wp2_with fail
      refine (alike_same _ _).mono ?_
      rintro e w2 ⟨rfl, hw2⟩
      subst hw2
      go_wp2_with fail
      go_ret
      exact ⟨rfl, hb1⟩
    · have HC : Hid (Calls Tryz.prog 145 #[errV a, errV b] w1 fun e w' => e = .returned (.bool false) ∧ w' = w1) := by
        unfold Hid
        rw [HA.out, HB.out]
        exact alike_other HE1.out _ _ (ordE_lt j hj) (ordE_lt i (by omega)) (fun h => e (ordE_inj i (by omega) j hj h.symm))
      go_wp2_with fail
      refine Calls.mono HC.out ?_
      rintro e w2 ⟨rfl, hw2⟩
      subst hw2
      go_wp2_with fail
      exact ⟨⟨i + 1, by simp, by omega, trivial⟩, by simp [intOf]; omega⟩
theorem sizeFt : (Tryz.prog.info? 64).map (·.size) = some 2 := by kernel_rfl
theorem bare_any (c : Int) (W : World) : Calls Tryz.prog 59 #[.int .i64 c] W fun e w' => e = .returned (.agg #[.int .i64 c, .slice none 0 0]) ∧ Below W.heap.size W w' := by
  go_enter Tryz.func59, Tryz.ntmps59
  go_wp2_with fail
  refine bodyPost_ret (results_cell_row (p := 2) (ty := 64) rfl _ _ W.heap.size 64 #[.int .i64 c, .slice none 0 0] (0, 0) _ rfl (Cel.new _ _ _) Tryz.underlying64 rfl sizeFt) rfl ?_
  exact ⟨rfl, below_new _ _⟩
theorem none_any (W : World) : Calls Tryz.prog 103 #[] W fun e w' => e = .returned (.agg #[.int .i64 0, .slice none 0 0]) ∧ Below W.heap.size W w' := by
  go_enter Tryz.func103, Tryz.ntmps103
  go_wp2_with fail
  refine bodyPost_ret (results_cell_row (p := 0) (ty := 64) rfl _ _ W.heap.size 64 #[.int .i64 0, .slice none 0 0] (0, 0) _ rfl (Cel.new _ _ _) Tryz.underlying64 rfl sizeFt) rfl ?_
  exact ⟨rfl, below_new _ _⟩
theorem new_size (W : World) (o : Obj) : (W.alloc o).heap.size = W.heap.size + 1 := by simp
theorem assert_no (v : Value) (w : World) : (Instr.typeAssert (.iface 179 v) 27 135 true).run Tryz.prog w = .ok (.tuple #[.pointer none, .bool false]) w := by kernel_rfl
set_option maxRecDepth 100000 in
set_option maxHeartbeats 1000000 in
theorem fault_sent (W : World) (ea : Nat → Addr) (hE : Er17 W ea) (j : Nat) (hj : j < 17) (a : Addr) (ha : a = ea (ordE j)) : Calls Tryz.prog 104 #[errV a, .int .i64 9] W fun e w' => e = .returned (.agg #[.int .i64 (101 + j), .slice none 0 0]) ∧ Below W.heap.size W w' := by
  have HS : Hid (∀ W', Below W.heap.size W W' → Calls Tryz.prog 122 #[errV a] W' fun e w' => e = .returned (.int .i64 (101 + j)) ∧ Below W'.heap.size W' w') := fun W' hb => sentinel_any W' ea (hE.below hb) j hj a ha
  clear hE ha
  have hno := assert_no (.pointer (some a))
  go_enter Tryz.func104, Tryz.ntmps104
  go_wp2_with fail
  refine Calls.mono (HS.out _ (below_new _ _)) ?_
  rintro e w1 ⟨rfl, hb1⟩
  have hbw1 := (below_new W (.cells #[.int .i64 0, .slice none 0 0] 64)).trans (hb1.mono (below_new W _).size)
  have HC1 : Hid (Cel w1 W.heap.size 64 #[.int .i64 0, .slice none 0 0]) := Cel.below (Cel.new W 64 #[.int .i64 0, .slice none 0 0]) hb1 (by rw [new_size]; omega)
  clear hb1
  go_wp2_with fail
  refine (bare_any _ _).mono ?_
  rintro e w2 ⟨rfl, hb2⟩
  have hc2 : Cel w2 W.heap.size 64 #[.int .i64 0, .slice none 0 0] := Cel.below HC1.out hb2 HC1.out.lt
  have hbw2 := hbw1.trans (hb2.mono hbw1.size)
  have HC2 : Hid (Cel w2 W.heap.size 64 #[.int .i64 0, .slice none 0 0]) := hc2
  have c0 := hc2.cell 0
  have f0 := hc2.frozen 0
  have c1 : ∀ v, (w2.setCell ⟨W.heap.size, 0, none⟩ v).cell? ⟨W.heap.size, 1, none⟩ = some (.slice none 0 0) := fun v => (hc2.set (j := 0) v).cell 1
  have f1 : ∀ v, (w2.setCell ⟨W.heap.size, 0, none⟩ v).frozen? ⟨W.heap.size, 1, none⟩ = false := fun v => (hc2.set (j := 0) v).frozen 1
  simp only [List.getElem?_toArray, List.getElem?_cons_zero] at c0
  clear hc2 hb2
  go_wp2_with fail
  refine bodyPost_ret (results_cell_row (p := 4) (ty := 64) rfl _ _ W.heap.size 64 #[.int .i64 (101 + j), .slice none 0 0] (0, 0) _ rfl ((HC2.out.set (j := 0) _).set (j := 1) _) Tryz.underlying64 rfl sizeFt) rfl ?_
  exact ⟨rfl, (hbw2.setCell (p := ⟨W.heap.size, 0, none⟩) (Nat.le_refl _) _).setCell (p := ⟨W.heap.size, 1, none⟩) (Nat.le_refl _) _⟩
set_option maxRecDepth 100000 in
set_option maxHeartbeats 1000000 in
theorem Fault_sent (W : World) (ea : Nat → Addr) (hE : Er17 W ea) (j : Nat) (hj : j < 17) (a : Addr) (ha : a = ea (ordE j)) : Calls Tryz.prog 83 #[errV a] W fun e w' => e = .returned (.agg #[.int .i64 (101 + j), .slice none 0 0]) ∧ Below W.heap.size W w' := by
  have HF : Hid (∀ W', Below W.heap.size W W' → Calls Tryz.prog 104 #[errV a, .int .i64 9] W' fun e w' => e = .returned (.agg #[.int .i64 (101 + j), .slice none 0 0]) ∧ Below W'.heap.size W' w') := fun W' hb => fault_sent W' ea (hE.below hb) j hj a ha
  clear hE ha
  go_enter Tryz.func83, Tryz.ntmps83
  go_wp2_with fail
  refine Calls.mono (HF.out _ (below_new _ _)) ?_
  rintro e w1 ⟨rfl, hb1⟩
  have hbw1 := (below_new W (.cells #[.int .i64 0, .slice none 0 0] 64)).trans (hb1.mono (below_new W _).size)
  have hr3 : Cel w1 W.heap.size 64 #[.int .i64 0, .slice none 0 0] := Cel.below (Cel.new W 64 #[.int .i64 0, .slice none 0 0]) hb1 (by rw [new_size]; omega)
  have c0 := hr3.cell 0
  have f0 := hr3.frozen 0
  have c1 : ∀ v, (w1.setCell ⟨W.heap.size, 0, none⟩ v).cell? ⟨W.heap.size, 1, none⟩ = some (.slice none 0 0) := fun v => (hr3.set (j := 0) v).cell 1
  have f1 : ∀ v, (w1.setCell ⟨W.heap.size, 0, none⟩ v).frozen? ⟨W.heap.size, 1, none⟩ = false := fun v => (hr3.set (j := 0) v).frozen 1
  simp only [List.getElem?_toArray, List.getElem?_cons_zero] at c0
  have HR4 : Hid (Cel ((w1.setCell ⟨W.heap.size, 0, none⟩ (.int .i64 (101 + (j : Int)))).setCell ⟨W.heap.size, 1, none⟩ (.slice none 0 0)) W.heap.size 64 #[.int .i64 (101 + (j : Int)), .slice none 0 0]) := (hr3.set (j := 0) _).set (j := 1) _
  clear hr3 hb1
  go_wp2_with fail
  refine bodyPost_ret (results_cell_row (p := 2) (ty := 64) rfl _ _ W.heap.size 64 _ (0, 0) _ rfl HR4.out Tryz.underlying64 rfl sizeFt) rfl ?_
  exact ⟨rfl, (hbw1.setCell (p := ⟨W.heap.size, 0, none⟩) (Nat.le_refl _) _).setCell (p := ⟨W.heap.size, 1, none⟩) (Nat.le_refl _) _⟩
set_option maxRecDepth 100000 in
theorem sameInts_nil (W : World) : Calls Tryz.prog 105 #[.slice none 0 0, .slice none 0 0] W fun e w' => e = .returned (.bool true) ∧ w' = W := by
  go_enter Tryz.func105, Tryz.ntmps105
  go_wp2_with fail
  go_loopw [5] (fun v5 wr => v5 = .int .i64 0 ∧ wr = W) (fun _ _ => 0)
  case atStart => exact ⟨rfl, rfl⟩
  case round =>
    obtain ⟨rfl, rfl⟩ := hrel
    go_wp2_with fail
    go_ret
    exact ⟨rfl, rfl⟩
set_option maxRecDepth 100000 in
set_option maxHeartbeats 1000000 in
theorem sameFault_bare (c : Int) (W : World) :
    Calls Tryz.prog 84 #[.agg #[.int .i64 c, .slice none 0 0], .agg #[.int .i64 c, .slice none 0 0]] W fun e w' => e = .returned (.bool true) ∧ Below W.heap.size W w' := by
  have hb1 := below_new W (.cells #[.int .i64 c, .slice none 0 0] 64)
  have hb2 := hb1.alloc hb1.size (.cells #[.int .i64 c, .slice none 0 0] 64)
  have HB : Hid (Below W.heap.size W ((W.alloc (.cells #[.int .i64 c, .slice none 0 0] 64)).alloc (.cells #[.int .i64 c, .slice none 0 0] 64))) := hb2
  clear hb1 hb2
  go_enter Tryz.func84, Tryz.ntmps84
  go_wp2_with fail
  refine (sameInts_nil _).mono ?_
  rintro e w1 ⟨rfl, hw1⟩
  subst hw1
  go_wp2_with fail
  go_ret
  exact ⟨by simp, HB.out⟩
set_option maxRecDepth 100000 in
set_option maxHeartbeats 1000000 in
/-- The error is the one of its number. -/
theorem is_sent (W : World) (ea : Nat → Addr) (hE : Er17 W ea) (j : Nat) (hj : j < 17) (a : Addr) (ha : a = ea (ordE j)) (c : Int) (hc : c = 101 + j) : Calls Tryz.prog 36 #[errV a, .int .i64 c] W fun e w' => e = .returned (.bool true) ∧ Below W.heap.size W w' := by
  have HF : Hid (∀ W', Below W.heap.size W W' → Calls Tryz.prog 83 #[errV a] W' fun e w' => e = .returned (.agg #[.int .i64 c, .slice none 0 0]) ∧ Below W'.heap.size W' w') := fun W' hb => by rw [hc]; exact Fault_sent W' ea (hE.below hb) j hj a ha
  clear hE ha hc hj
  generalize errV a = ev at *
  have HS : Hid (∀ W', Below W.heap.size W W' → Calls Tryz.prog 58 #[ev, .agg #[.int .i64 c, .slice none 0 0]] W' fun e w' => e = .returned (.bool true) ∧ Below W'.heap.size W' w') := by
    intro W1 hbW
    have hb1 := below_new W1 (.cells #[.int .i64 c, .slice none 0 0] 64)
    have HF1 : Hid _ := HF.out _ (hbW.trans (hb1.mono hbW.size))
    have hbs := hb1.size
    clear hbW
    go_enter Tryz.func58, Tryz.ntmps58
    go_wp2_with fail
    refine Calls.mono HF1.out ?_
    rintro e w1 ⟨rfl, hb2⟩
    have hbw1 := hb1.trans (hb2.mono hb1.size)
    have q3 := Cel.below (Cel.new W1 64 #[.int .i64 c, .slice none 0 0]) hb2 (by rw [new_size]; omega)
    have q4 := Cel.below q3 (below_new w1 (.cells #[.int .i64 c, .slice none 0 0] 64)) q3.lt
    have d0 := q4.cell 0
    have d1 := q4.cell 1
    simp only [List.getElem?_toArray, List.getElem?_cons_zero, List.getElem?_cons_succ] at d0 d1
    have hbw2 := hbw1.alloc hbw1.size (.cells #[.int .i64 c, .slice none 0 0] 64)
    clear q3 q4 hb2
    go_wp2_with fail
    refine (sameFault_bare c _).mono ?_
    rintro e w3 ⟨rfl, hb3⟩
    go_wp2_with fail
    go_ret
    exact ⟨rfl, hbw2.trans (hb3.mono hbw2.size)⟩
  go_enter Tryz.func36, Tryz.ntmps36
  go_wp2_with fail
  refine (bare_any c W).mono ?_
  rintro e w1 ⟨rfl, hb1⟩
  go_wp2_with fail
  refine Calls.mono (HS.out _ hb1) ?_
  rintro e w2 ⟨rfl, hb2⟩
  go_wp2_with fail
  go_ret
  exact ⟨rfl, hb1.trans (hb2.mono hb1.size)⟩
/-- It is too big: the error says so. -/
theorem is_big (W : World) (ea : Nat → Addr) (hE : Er17 W ea) : Calls Tryz.prog 36 #[bigV (ea 0), .int .i64 114] W fun e w' => e = .returned (.bool true) ∧ Below W.heap.size W w' := is_sent W ea hE 13 (by decide) _ rfl 114 rfl
end Go.Proofs.YtdajacodfnidfaaGreatDoor
/-! The document's own answers: two lists joined, any. -/
namespace Go.Proofs.YtdajacodfnidfaaGreatDoor
open Go.RowKit Go.Shelf

theorem Tx.cellsAt {W : World} {g o n cap : Nat} {A : List (List UInt8)} (h : Tx W (.slice (some ⟨g, o, none⟩) n cap) A) (hne : A ≠ []) : ∀ W', Below W.heap.size W W' → ∀ k p, A[k]? = some p → W'.cell? ⟨g, o + k, none⟩ = some (.string ⟨p.toArray⟩) := by
  intro W' hb k p hp
  obtain ⟨g', o', cap', hv, _, _, hc⟩ := (h.below hb (Nat.le_refl _)).inRow hne
  cases hv
  exact hc k p hp
theorem oneB_nil : oneB [] = [[]] := rfl
theorem oneB_some {A : List (List UInt8)} (h : 1 ≤ A.length) : oneB A = A := by
  unfold oneB
  rw [if_neg (by omega)]
/-- What the joined list of two is to the walk. -/
theorem two_facts (A C : List (List UInt8)) (_ha : 1 ≤ A.length) (_hc : 1 ≤ C.length) (N : Nat) (hN : joinedN A.length C.length = N) :
    Hid (∀ k, k < N → (jtB A C).take (k + 1) = (jtB A C).take k ++ [atB A k ++ atB C k]) ∧ Hid (∀ k, k < N → 2000 < (atB A k).length ∨ 2000 < (atB C k).length → bound (jtB A C) = none) ∧ Hid ((jtB A C).length = N) := by
  subst hN
  exact ⟨fun k hk => jt_take A C k hk, fun k hk hl => jt_long A C k hk hl, jt_length A C⟩
theorem rtwo_any (va vb : Value) (A C : List (List UInt8)) (w : World) (ha : Tx w va A) (hb : Tx w vb C) (hA : A.length ≤ 60000) (hC : C.length ≤ 60000) (hza : ∀ s ∈ A, s.length ≤ 60000) (hzc : ∀ s ∈ C, s.length ≤ 60000) :
    Calls Tryz.prog 35 #[va, vb] w fun e w' => RGot (bound (jtB (oneB A) (oneB C))) e w' ∧ Below w.heap.size w w' := by
  have hn1 := below_new w (.cells #[.string ⟨#[]⟩] 9)
  have hn2 := below_new (w.alloc (.cells #[.string ⟨#[]⟩] 9)) (.cells #[.string ⟨#[]⟩] 9)
  have hsz : (w.alloc (.cells #[.string ⟨#[]⟩] 9)).heap.size = w.heap.size + 1 := by simp
  have hz1 : ∀ s ∈ [([] : List UInt8)], s.length ≤ 60000 := fun s hs => by simp at hs; subst hs; simp
  have t1 : Tx (w.alloc (.cells #[.string ⟨#[]⟩] 9)) (.slice (some ⟨w.heap.size, 0, none⟩) 1 1) [[]] := Tx.one w []
  have t2 : Tx ((w.alloc (.cells #[.string ⟨#[]⟩] 9)).alloc (.cells #[.string ⟨#[]⟩] 9)) (.slice (some ⟨w.heap.size + 1, 0, none⟩) 1 1) [[]] := by
    have := Tx.one (w.alloc (.cells #[.string ⟨#[]⟩] 9)) []
    rw [hsz] at this
    exact this
  rcases Nat.lt_or_ge A.length 1 with a0 | a1
  · obtain rfl : A = [] := List.eq_nil_of_length_eq_zero (by omega)
    obtain ⟨ada, capa, rfl⟩ := ha.form
    rcases Nat.lt_or_ge C.length 1 with c0 | c1
    · obtain rfl : C = [] := List.eq_nil_of_length_eq_zero (by omega)
      obtain ⟨adc, capc, rfl⟩ := hb.form
      rw [oneB_nil]
      obtain ⟨f1, f2, f3⟩ := two_facts [[]] [[]] (by simp) (by simp) 1 (by unfold joinedN; rw [if_pos (by first | exact .inl rfl | exact .inr rfl | (left; omega) | (right; omega))]; first | rfl | (simp only [List.length_cons, List.length_nil, Nat.zero_add]; omega) | omega)
      exact two_EE [[]] [[]] _ w _ _ _ _ rfl rfl (Tx.cellsAt (t1.below hn2 (Nat.le_refl _)) (by simp)) (Tx.cellsAt t2 (by simp)) hz1 hz1 f1 f2 f3
    · by_cases cS : C.length = 1
      · have nC : C ≠ [] := fun e => by rw [e] at c1; simp at c1
        obtain ⟨gc, oc, capc, rfl, cc, _, _⟩ := hb.inRow nC
        rw [cS] at hb cc ⊢
        rw [oneB_nil, oneB_some (by omega)]
        obtain ⟨f1, f2, f3⟩ := two_facts [[]] C (by simp) (by omega) 1 (by unfold joinedN; rw [if_pos (by first | exact .inl rfl | exact .inr rfl | (left; omega) | (right; omega))]; first | rfl | (simp only [List.length_cons, List.length_nil, Nat.zero_add]; omega) | omega)
        exact two_ES [[]] C _ w _ _ _ _ _ rfl (by omega) cc (Tx.cellsAt t1 (by simp)) (Tx.cellsAt (hb.below hn1 (Nat.le_refl _)) nC) hz1 hzc f1 f2 f3
      · have nC : C ≠ [] := fun e => by rw [e] at c1; simp at c1
        obtain ⟨gc, oc, capc, rfl, cc, _, _⟩ := hb.inRow nC
        rw [oneB_nil, oneB_some (by omega)]
        obtain ⟨f1, f2, f3⟩ := two_facts [[]] C (by simp) (by omega) C.length (by unfold joinedN; rw [if_pos (by first | exact .inl rfl | exact .inr rfl | (left; omega) | (right; omega))]; first | rfl | (simp only [List.length_cons, List.length_nil, Nat.zero_add]; omega) | omega)
        exact two_EM [[]] C _ w _ _ _ _ _ rfl C.length rfl (by omega) hC cc (Tx.cellsAt t1 (by simp)) (Tx.cellsAt (hb.below hn1 (Nat.le_refl _)) nC) hz1 hzc f1 f2 f3
  · by_cases aS : A.length = 1
    · have nA : A ≠ [] := fun e => by rw [e] at a1; simp at a1
      obtain ⟨ga, oa, capa, rfl, ca, _, _⟩ := ha.inRow nA
      rw [aS] at ha ca ⊢
      rcases Nat.lt_or_ge C.length 1 with c0 | c1
      · obtain rfl : C = [] := List.eq_nil_of_length_eq_zero (by omega)
        obtain ⟨adc, capc, rfl⟩ := hb.form
        rw [oneB_some (by omega), oneB_nil]
        obtain ⟨f1, f2, f3⟩ := two_facts A [[]] (by omega) (by simp) 1 (by unfold joinedN; rw [if_pos (by first | exact .inl rfl | exact .inr rfl | (left; omega) | (right; omega))]; first | rfl | (simp only [List.length_cons, List.length_nil, Nat.zero_add]; omega) | omega)
        exact two_SE A [[]] _ w _ _ _ _ _ (by omega) rfl ca (Tx.cellsAt (ha.below hn1 (Nat.le_refl _)) nA) (Tx.cellsAt t1 (by simp)) hza hz1 f1 f2 f3
      · by_cases cS : C.length = 1
        · have nC : C ≠ [] := fun e => by rw [e] at c1; simp at c1
          obtain ⟨gc, oc, capc, rfl, cc, _, _⟩ := hb.inRow nC
          rw [cS] at hb cc ⊢
          rw [oneB_some (by omega), oneB_some (by omega)]
          obtain ⟨f1, f2, f3⟩ := two_facts A C (by omega) (by omega) 1 (by unfold joinedN; rw [if_pos (by first | exact .inl rfl | exact .inr rfl | (left; omega) | (right; omega))]; first | rfl | (simp only [List.length_cons, List.length_nil, Nat.zero_add]; omega) | omega)
          exact two_SS A C _ w _ _ _ _ _ _ (by omega) (by omega) ca cc (Tx.cellsAt ha nA) (Tx.cellsAt hb nC) hza hzc f1 f2 f3
        · have nC : C ≠ [] := fun e => by rw [e] at c1; simp at c1
          obtain ⟨gc, oc, capc, rfl, cc, _, _⟩ := hb.inRow nC
          rw [oneB_some (by omega), oneB_some (by omega)]
          obtain ⟨f1, f2, f3⟩ := two_facts A C (by omega) (by omega) C.length (by unfold joinedN; rw [if_pos (by first | exact .inl rfl | exact .inr rfl | (left; omega) | (right; omega))]; first | rfl | (simp only [List.length_cons, List.length_nil, Nat.zero_add]; omega) | omega)
          exact two_SM A C _ w _ _ _ _ _ _ (by omega) C.length rfl (by omega) hC ca cc (Tx.cellsAt ha nA) (Tx.cellsAt hb nC) hza hzc f1 f2 f3
    · have nA : A ≠ [] := fun e => by rw [e] at a1; simp at a1
      obtain ⟨ga, oa, capa, rfl, ca, _, _⟩ := ha.inRow nA
      rcases Nat.lt_or_ge C.length 1 with c0 | c1
      · obtain rfl : C = [] := List.eq_nil_of_length_eq_zero (by omega)
        obtain ⟨adc, capc, rfl⟩ := hb.form
        rw [oneB_some (by omega), oneB_nil]
        obtain ⟨f1, f2, f3⟩ := two_facts A [[]] (by omega) (by simp) A.length (by unfold joinedN; rw [if_pos (by first | exact .inl rfl | exact .inr rfl | (left; omega) | (right; omega))]; first | rfl | (simp only [List.length_cons, List.length_nil, Nat.zero_add]; omega) | omega)
        exact two_ME A [[]] _ w _ _ _ _ _ A.length rfl (by omega) hA rfl ca (Tx.cellsAt (ha.below hn1 (Nat.le_refl _)) nA) (Tx.cellsAt t1 (by simp)) hza hz1 f1 f2 f3
      · by_cases cS : C.length = 1
        · have nC : C ≠ [] := fun e => by rw [e] at c1; simp at c1
          obtain ⟨gc, oc, capc, rfl, cc, _, _⟩ := hb.inRow nC
          rw [cS] at hb cc ⊢
          rw [oneB_some (by omega), oneB_some (by omega)]
          obtain ⟨f1, f2, f3⟩ := two_facts A C (by omega) (by omega) A.length (by unfold joinedN; rw [if_pos (by first | exact .inl rfl | exact .inr rfl | (left; omega) | (right; omega))]; first | rfl | (simp only [List.length_cons, List.length_nil, Nat.zero_add]; omega) | omega)
          exact two_MS A C _ w _ _ _ _ _ _ A.length rfl (by omega) hA (by omega) ca cc (Tx.cellsAt ha nA) (Tx.cellsAt hb nC) hza hzc f1 f2 f3
        · have nC : C ≠ [] := fun e => by rw [e] at c1; simp at c1
          obtain ⟨gc, oc, capc, rfl, cc, _, _⟩ := hb.inRow nC
          rw [oneB_some (by omega), oneB_some (by omega)]
          rcases Nat.lt_or_ge C.length A.length with hle | hle
          · obtain ⟨f1, f2, f3⟩ := two_facts A C (by omega) (by omega) C.length (by unfold joinedN; rw [if_neg (by omega)]; omega)
            exact two_MMg A C _ w _ _ _ _ _ _ A.length rfl (by omega) hA C.length rfl (by omega) hC ca cc hle (Tx.cellsAt ha nA) (Tx.cellsAt hb nC) hza hzc f1 f2 f3
          · obtain ⟨f1, f2, f3⟩ := two_facts A C (by omega) (by omega) A.length (by unfold joinedN; rw [if_neg (by omega)]; omega)
            exact two_MMl A C _ w _ _ _ _ _ _ A.length rfl (by omega) hA C.length rfl (by omega) hC ca cc hle (Tx.cellsAt ha nA) (Tx.cellsAt hb nC) hza hzc f1 f2 f3
end Go.Proofs.YtdajacodfnidfaaGreatDoor
/-! The document's own answers: Join. -/
namespace Go.Proofs.YtdajacodfnidfaaGreatDoor
open Go.RowKit Go.Shelf

theorem GotL.owns {B : Nat} {a : Addr} {r : Option (List (List UInt8))} {e : Ending} {w : World} (h : GotL B a r e w) : ∃ v, e = .returned (.tuple #[v, resV a r]) ∧ w.ownsRow B 9 1 v (resL r).length (txV (resL r)) := by
  cases r with
  | none => exact ⟨.slice none 0 0, h, rfl, .inl ⟨rfl, rfl⟩⟩
  | some l => exact h

set_option maxRecDepth 100000 in
set_option maxHeartbeats 2000000 in
theorem texts_any (v : Value) (l : List (List UInt8)) (w : World) (h : Tx w v l) (hl : l.length < 4294967296) :
    Calls Tryz.prog 34 #[v] w fun e w' => ∃ v', e = .returned v' ∧ w'.ownsRow w.heap.size 9 1 v' l.length (txV l) ∧ Below w.heap.size w w' := by
  obtain ⟨i0, hi0, hz0, hz1, hz2⟩ := info_parts info9
  have HT : Hid (Tx w v l) := h
  obtain ⟨ad, cap, rfl⟩ := h.form
  clear h
  go_enter Tryz.func34, Tryz.ntmps34
  go_wp2_with (at_make; refine wpList_make_own _ rfl _ _ 23 rfl w.heap.size 9 i0 (.string ⟨#[]⟩) 1 Tryz.underlying23 hi0 hz0 hz1 .i64 .i64 _ l.length rfl rfl rfl (by rw [hz2]; omega) (by have := maxLen_big; omega) (Nat.le_refl _) ?_; intro w0 hown0 hgrow0)
  have hb0 : Below w.heap.size w w0 := (Below.refl _ w).grown hgrow0 (Nat.le_refl _) fun q e => by cases e
  have HO0 : Hid _ := hown0
  clear hown0 hgrow0
  go_loopw [3, 4] (fun v3 v4 wr => ∃ k : Nat, v4 = .int .i64 k ∧ k ≤ l.length ∧ Hid (wr.ownsRow w.heap.size 9 1 v3 (l.take k).length (txV (l.take k))) ∧ Below w.heap.size w wr) (fun _ v4 _ => l.length - (intOf v4).toNat)
  case atStart => exact ⟨0, rfl, by omega, HO0.out, hb0⟩
  case round =>
    obtain ⟨k, rfl, hk, HO, hbr⟩ := hrel
    by_cases hkl : k < l.length
    · obtain ⟨x, hx⟩ : ∃ x, l[k]? = some x := ⟨_, List.getElem?_eq_getElem hkl⟩
      obtain ⟨g, o, cap', hv, hcc, hg, hce⟩ := HT.out.inRow (fun e => by rw [e] at hkl; simp at hkl)
      cases hv
      have c0 := (hbr.cell (p := ⟨g, o + k, none⟩) hg).trans (hce k x hx)
      have HTK : Hid (l.take (k + 1) = l.take k ++ [x]) := by unfold Hid; rw [List.take_add_one, hx]; rfl
      have HTL : Hid ((l.take k).length = k) := by unfold Hid; rw [List.length_take]; omega
      have ho := HO.out
      rw [HTL.out] at ho
      clear hce hx
      have hba : Below w.heap.size w (wr.alloc (.cells #[.string ⟨x.toArray⟩] 9)) := hbr.alloc hbr.size _
      go_wp2_with (at_builtin; refine wpList_append_own _ rfl _ _ 23 rfl w.heap.size 9 i0 (.string ⟨#[]⟩) 1 16 Tryz.underlying23 hi0 hz0 hz1 hz2 rfl (by decide) _ _ _ rfl (ho.alloc _) ⟨wr.heap.size, 0, none⟩ 1 1 (txV [x]) rfl rfl (Tx.cells (Tx.one wr x)) (txV_one [x]) (by have := maxLen_big; omega) (by omega) hba.size ?_; intro v' w5 hown' hgrow _)
      refine ⟨⟨k + 1, by simp, by omega, ?_, grown_own hba.size hba (ho.alloc _) hgrow⟩, by simp [intOf]; omega⟩
      have e1 := HTK.out
      unfold Hid
      rw [e1, txV_append, List.length_append, HTL.out]
      exact hown'
    · have hkz : k = l.length := by omega
      subst hkz
      rw [List.take_length] at HO
      go_wp2_with fail
      go_ret
      exact ⟨_, rfl, HO.out, hbr⟩

theorem join_texts {W w : World} {v : Value} {l : List (List UInt8)} (h : w.ownsRow W.heap.size 9 1 v l.length (txV l)) : Tx w v l := Tx.owned h
theorem jt_pos (A C : List (List UInt8)) (ha : 1 ≤ A.length) (hc : 1 ≤ C.length) : 1 ≤ (jtB A C).length := by
  rw [jt_length]
  unfold joinedN
  split <;> omega
/-- What is joined so far, or that it is too big. -/
def JoinSt (ls rest : List (List (List UInt8))) (k : Nat) (r : Option (List (List UInt8))) : Prop := joinB ls = (match r with | some m => joinFrom m (rest.drop k) | none => none) ∧ ∀ m, r = some m → 1 ≤ m.length ∧ m.length ≤ 60000 ∧ ∀ s ∈ m, s.length ≤ 60000
theorem JoinSt.next {ls rest : List (List (List UInt8))} {k : Nat} {m l : List (List UInt8)} (h : JoinSt ls rest k (some m)) (hl : rest[k]? = some l) : JoinSt ls rest (k + 1) (bound (jtB m (oneB l))) := by
  obtain ⟨h1, h2⟩ := h
  obtain ⟨h3, h4, h5⟩ := h2 m rfl
  have hd : joinB ls = if fitsB (jtB m (oneB l)) then joinFrom (jtB m (oneB l)) (rest.drop (k + 1)) else none := by
    rw [h1]
    simp only
    rw [List.drop_eq_getElem_cons (List.getElem?_eq_some_iff.1 hl).1, (List.getElem?_eq_some_iff.1 hl).2]
    rfl
  cases hf : fitsB (jtB m (oneB l))
  · rw [bound_no hf]
    rw [hf] at hd
    exact ⟨hd, fun m' hm' => by cases hm'⟩
  · rw [bound_yes hf]
    rw [hf] at hd
    refine ⟨hd, fun m' hm' => ?_⟩
    cases hm'
    refine ⟨jt_pos m _ h3 (oneB_pos l), by have := fits_length _ hf; omega, fun s hs => by have := fits_mem _ hf s hs; omega⟩
theorem JoinSt.last {ls rest : List (List (List UInt8))} {m : List (List UInt8)} (h : JoinSt ls rest rest.length (some m)) : joinB ls = bound m := by
  rw [h.1]
  simp only [List.drop_length]
  rfl
set_option maxRecDepth 100000 in
set_option maxHeartbeats 4000000 in
theorem rjoin_any (v : Value) (ls : List (List (List UInt8))) (w : World) (h : Tss w v ls) (hls : ls.length ≤ 60000) (hz : ∀ l ∈ ls, l.length ≤ 60000) (hzz : ∀ l ∈ ls, ∀ s ∈ l, s.length ≤ 60000) :
    Calls Tryz.prog 9 #[v] w fun e w' => RGot (joinB ls) e w' ∧ Below w.heap.size w w' := by
  have HT : Hid (∀ W', Below w.heap.size w W' → Tss W' v ls) := fun W' hb => h.below hb (Nat.le_refl _)
  have HZ : Hid (∀ l ∈ ls, l.length ≤ 60000) := hz
  have HZZ : Hid (∀ l ∈ ls, ∀ s ∈ l, s.length ≤ 60000) := hzz
  obtain ⟨g, o, ad, cap, rfl, hcap, hne, hce⟩ := h
  clear hz hzz
  cases hL : ls with
  | nil =>
    subst hL
    have HTO : Hid (Tx (w.alloc (.cells #[.string ⟨#[]⟩] 9)) (.slice (some ⟨w.heap.size, 0, none⟩) 1 1) [[]]) := Tx.one w []
    have HB : Hid (Below w.heap.size w (w.alloc (.cells #[.string ⟨#[]⟩] 9))) := below_new w _
    clear hce hne
    go_enter Tryz.func9, Tryz.ntmps9
    go_wp2_with fail
    go_ret2
    exact ⟨RGot.some HTO.out, HB.out⟩
  | cons l0 rest =>
    obtain ⟨rfl, hg⟩ := hne (by rw [hL]; simp)
    obtain ⟨v0, c0, t0⟩ := hce 0 l0 (by rw [hL]; rfl)
    simp only [Nat.add_zero] at c0
    obtain ⟨ad0, cap0, rfl⟩ := t0.form
    have hl0 := HZ.out l0 (by rw [hL]; exact List.mem_cons_self ..)
    have HTX : Hid (Calls Tryz.prog 34 #[.slice ad0 l0.length cap0] w fun e w' => ∃ v', e = .returned v' ∧ w'.ownsRow w.heap.size 9 1 v' l0.length (txV l0) ∧ Below w.heap.size w w') := texts_any _ l0 w t0 (by omega)
    have HRE : Hid (∀ k l, rest[k]? = some l → ls[k + 1]? = some l) := fun k l hl => by rw [hL]; simpa using hl
    have HJ0 : Hid (JoinSt ls rest 0 (some (oneB l0))) := by
      refine ⟨by rw [hL]; rfl, fun m hm => ?_⟩
      cases hm
      refine ⟨oneB_pos l0, ?_, ?_⟩
      · unfold oneB
        split
        · simp
        · exact hl0
      · unfold oneB
        split
        · intro s hs; simp at hs; subst hs; simp
        · exact HZZ.out l0 (by rw [hL]; exact List.mem_cons_self ..)
    obtain ⟨n, hn⟩ : ∃ n, rest.length = n := ⟨_, rfl⟩
    have hlen : ls.length = n + 1 := by rw [hL, List.length_cons, hn]
    have HN : Hid (rest.length = n) := hn
    have HLL : Hid (ls = l0 :: rest) := hL
    rw [← hL]
    rw [hlen] at hcap hls ⊢
    have HT' : Hid (∀ W', Below w.heap.size w W' → ∀ k l, ls[k]? = some l → ∃ vl, W'.cell? ⟨g, o + k, none⟩ = some vl ∧ Tx W' vl l) := fun W' hb k l hk => by
      obtain ⟨g', o', ad', cap', hv, _, h3, h4⟩ := HT.out W' hb
      rw [hlen] at hv
      have := (h3 (by rw [HLL.out]; simp)).1
      subst this
      cases hv
      exact h4 k l hk
    clear hce hne t0 hL hn hlen HT
    by_cases h00 : l0.length = 0
    · have HO0 : Hid (oneB l0 = [[]]) := by unfold Hid oneB; rw [if_pos h00]
      have H00 : Hid (l0.length = 0) := h00
      clear h00
      go_enter Tryz.func9, Tryz.ntmps9
      go_wp2_with fail
      refine Calls.mono HTX.out ?_
      rintro e w1 ⟨v1, rfl, ho1, hb1⟩
      obtain ⟨ad1, cap1, rfl⟩ := owns_slice ho1
      have HS : Hid (Tx (w1.alloc (.cells #[.string ⟨#[]⟩] 9)) (.slice (some ⟨w1.heap.size, 0, none⟩) 1 1) (oneB l0)) := by
        unfold Hid
        rw [HO0.out]
        exact Tx.one w1 []
      have HB1 : Hid (Below w.heap.size w (w1.alloc (.cells #[.string ⟨#[]⟩] 9))) := hb1.alloc hb1.size _
      have h00 : l0.length = 0 := H00.out
      clear ho1 hb1 c0
      go_wp2_with fail
      go_loopw [5, 6, 7] (fun v5 v6 v7 wr => ∃ (k : Nat) (r : Option (List (List UInt8))) (ad cap q : Nat) (av : Option Addr), v5 = .slice av q cap ∧ v6 = .bool r.isSome ∧ v7 = .int .i64 (k + 1 : Nat) ∧ k ≤ n ∧ Hid (Tx wr (.slice av q cap) (resL r)) ∧ Hid (JoinSt ls rest k r) ∧ Hid (Below w.heap.size w wr) ∧ ad = 0) (fun _ _ v7 _ => n + 1 - (intOf v7).toNat)
      case atStart => exact ⟨0, some (oneB l0), 0, _, _, _, rfl, rfl, by simp, Nat.zero_le _, HS.out, HJ0.out, HB1.out, rfl⟩
      case round =>
        obtain ⟨k, r, _, cap5, q, av, rfl, rfl, rfl, hk, HTr, HJ, HB, _⟩ := hrel
        cases r with
        | none =>
          have HNN : Hid (joinB ls = none) := HJ.out.1
          by_cases hkn : k < n
          · have hki : ((k + 1 : Nat) : Int) < ((n + 1 : Nat) : Int) := by omega
            simp only [Option.isSome_none]
            go_wp2_with fail
            go_ret2
            exact ⟨by rw [HNN.out]; exact RGot.none _, HB.out⟩
          · obtain rfl : k = n := by omega
            simp only [Option.isSome_none]
            go_wp2_with fail
            go_ret2
            exact ⟨by rw [HNN.out]; exact RGot.none _, HB.out⟩
        | some m =>
          simp only [Option.isSome_some]
          have HTm : Hid (Tx wr (.slice av q cap5) m) := HTr.out
          obtain ⟨hm1, hm2, hm3⟩ := HJ.out.2 m rfl
          have HM3 : Hid (∀ s ∈ m, s.length ≤ 60000) := hm3
          clear hm3
          by_cases hkn : k < n
          · obtain ⟨l, hl⟩ : ∃ l, rest[k]? = some l := ⟨_, List.getElem?_eq_getElem (by rw [HN.out]; exact hkn)⟩
            have hlm := List.mem_of_getElem? (HRE.out k l hl)
            obtain ⟨vl, c1, tl⟩ := HT'.out _ HB.out (k + 1) l (HRE.out k l hl)
            obtain ⟨adl, capl, rfl⟩ := tl.form
            have HNX : Hid (JoinSt ls rest (k + 1) (bound (jtB m (oneB l)))) := HJ.out.next hl
            have HC : Hid (Calls Tryz.prog 35 #[.slice av q cap5, .slice adl l.length capl] wr fun e w' => RGot (bound (jtB m (oneB l))) e w' ∧ Below wr.heap.size wr w') := by
              have := rtwo_any _ _ m l wr HTm.out tl hm2 (HZ.out l hlm) HM3.out (HZZ.out l hlm)
              rw [oneB_some hm1] at this
              exact this
            obtain ⟨R2, hR2⟩ : ∃ R2, bound (jtB m (oneB l)) = R2 := ⟨_, rfl⟩
            rw [hR2] at HNX HC
            have hkc : ((k + 1 : Nat) : Int) < ((n + 1 : Nat) : Int) := by omega
            clear hl hlm tl hR2
            go_wp2_with fail
            refine Calls.mono HC.out ?_
            rintro e w3 ⟨⟨ad3, cap3, rfl, t3⟩, hb3⟩
            have H3 : Hid (Tx w3 (.slice ad3 (resL R2).length cap3) (resL R2)) := t3
            have HB3 : Hid (Below w.heap.size w w3) := HB.out.trans (hb3.mono HB.out.size)
            clear t3 hb3 c1
            obtain ⟨q3, hq3⟩ : ∃ q3, (resL R2).length = q3 := ⟨_, rfl⟩
            rw [hq3] at H3 ⊢
            clear hq3
            go_wp2_with fail
            exact ⟨⟨k + 1, R2, 0, cap3, q3, ad3, rfl, rfl, by simp, by omega, H3.out, HNX.out, HB3.out, rfl⟩, by simp [intOf]; omega⟩
          · obtain rfl : k = n := by omega
            have HR : Hid (joinB ls = bound m) := JoinSt.last (by rw [HN.out]; exact HJ.out)
            have HMZ : Hid (∀ s ∈ m, s.length < 4294967296) := fun s hs => Nat.lt_of_le_of_lt (HM3.out s hs) (by decide)
            go_wp2_with fail
            refine (rfits_any _ m _ HTm.out HMZ.out (by omega)).mono ?_
            rintro e w3 ⟨⟨ad3, cap3, rfl, t3⟩, hw3⟩
            subst hw3
            have H3 : Hid (RGot (bound m) (.returned (.tuple #[.slice ad3 (resL (bound m)).length cap3, .bool (bound m).isSome])) w3) := ⟨_, _, rfl, t3⟩
            clear t3
            generalize (resL (bound m)).length = n3 at *
            generalize (bound m).isSome = b3 at *
            go_wp2_with fail
            go_ret2
            exact ⟨by rw [HR.out]; exact H3.out, HB.out⟩
    · have HO0 : Hid (oneB l0 = l0) := by unfold Hid oneB; rw [if_neg h00]
      have z0 : ((l0.length : Int) == 0) = false := beq_eq_false_iff_ne.2 (by omega)
      go_enter Tryz.func9, Tryz.ntmps9
      go_wp2_with fail
      refine Calls.mono HTX.out ?_
      rintro e w1 ⟨v1, rfl, ho1, hb1⟩
      obtain ⟨ad1, cap1, rfl⟩ := owns_slice ho1
      have HS : Hid (Tx w1 (.slice ad1 l0.length cap1) (oneB l0)) := by
        unfold Hid
        rw [HO0.out]
        exact Tx.owned ho1
      have HB1 : Hid (Below w.heap.size w w1) := hb1
      clear ho1 hb1 c0
      go_wp2_with fail
      go_loopw [5, 6, 7] (fun v5 v6 v7 wr => ∃ (k : Nat) (r : Option (List (List UInt8))) (ad cap q : Nat) (av : Option Addr), v5 = .slice av q cap ∧ v6 = .bool r.isSome ∧ v7 = .int .i64 (k + 1 : Nat) ∧ k ≤ n ∧ Hid (Tx wr (.slice av q cap) (resL r)) ∧ Hid (JoinSt ls rest k r) ∧ Hid (Below w.heap.size w wr) ∧ ad = 0) (fun _ _ v7 _ => n + 1 - (intOf v7).toNat)
      case atStart => exact ⟨0, some (oneB l0), 0, _, _, _, rfl, rfl, by simp, Nat.zero_le _, HS.out, HJ0.out, HB1.out, rfl⟩
      case round =>
        obtain ⟨k, r, _, cap5, q, av, rfl, rfl, rfl, hk, HTr, HJ, HB, _⟩ := hrel
        cases r with
        | none =>
          have HNN : Hid (joinB ls = none) := HJ.out.1
          by_cases hkn : k < n
          · have hki : ((k + 1 : Nat) : Int) < ((n + 1 : Nat) : Int) := by omega
            simp only [Option.isSome_none]
            go_wp2_with fail
            go_ret2
            exact ⟨by rw [HNN.out]; exact RGot.none _, HB.out⟩
          · obtain rfl : k = n := by omega
            simp only [Option.isSome_none]
            go_wp2_with fail
            go_ret2
            exact ⟨by rw [HNN.out]; exact RGot.none _, HB.out⟩
        | some m =>
          simp only [Option.isSome_some]
          have HTm : Hid (Tx wr (.slice av q cap5) m) := HTr.out
          obtain ⟨hm1, hm2, hm3⟩ := HJ.out.2 m rfl
          have HM3 : Hid (∀ s ∈ m, s.length ≤ 60000) := hm3
          clear hm3
          by_cases hkn : k < n
          · obtain ⟨l, hl⟩ : ∃ l, rest[k]? = some l := ⟨_, List.getElem?_eq_getElem (by rw [HN.out]; exact hkn)⟩
            have hlm := List.mem_of_getElem? (HRE.out k l hl)
            obtain ⟨vl, c1, tl⟩ := HT'.out _ HB.out (k + 1) l (HRE.out k l hl)
            obtain ⟨adl, capl, rfl⟩ := tl.form
            have HNX : Hid (JoinSt ls rest (k + 1) (bound (jtB m (oneB l)))) := HJ.out.next hl
            have HC : Hid (Calls Tryz.prog 35 #[.slice av q cap5, .slice adl l.length capl] wr fun e w' => RGot (bound (jtB m (oneB l))) e w' ∧ Below wr.heap.size wr w') := by
              have := rtwo_any _ _ m l wr HTm.out tl hm2 (HZ.out l hlm) HM3.out (HZZ.out l hlm)
              rw [oneB_some hm1] at this
              exact this
            obtain ⟨R2, hR2⟩ : ∃ R2, bound (jtB m (oneB l)) = R2 := ⟨_, rfl⟩
            rw [hR2] at HNX HC
            have hkc : ((k + 1 : Nat) : Int) < ((n + 1 : Nat) : Int) := by omega
            clear hl hlm tl hR2
            go_wp2_with fail
            refine Calls.mono HC.out ?_
            rintro e w3 ⟨⟨ad3, cap3, rfl, t3⟩, hb3⟩
            have H3 : Hid (Tx w3 (.slice ad3 (resL R2).length cap3) (resL R2)) := t3
            have HB3 : Hid (Below w.heap.size w w3) := HB.out.trans (hb3.mono HB.out.size)
            clear t3 hb3 c1
            obtain ⟨q3, hq3⟩ : ∃ q3, (resL R2).length = q3 := ⟨_, rfl⟩
            rw [hq3] at H3 ⊢
            clear hq3
            go_wp2_with fail
            exact ⟨⟨k + 1, R2, 0, cap3, q3, ad3, rfl, rfl, by simp, by omega, H3.out, HNX.out, HB3.out, rfl⟩, by simp [intOf]; omega⟩
          · obtain rfl : k = n := by omega
            have HR : Hid (joinB ls = bound m) := JoinSt.last (by rw [HN.out]; exact HJ.out)
            have HMZ : Hid (∀ s ∈ m, s.length < 4294967296) := fun s hs => Nat.lt_of_le_of_lt (HM3.out s hs) (by decide)
            go_wp2_with fail
            refine (rfits_any _ m _ HTm.out HMZ.out (by omega)).mono ?_
            rintro e w3 ⟨⟨ad3, cap3, rfl, t3⟩, hw3⟩
            subst hw3
            have H3 : Hid (RGot (bound m) (.returned (.tuple #[.slice ad3 (resL (bound m)).length cap3, .bool (bound m).isSome])) w3) := ⟨_, _, rfl, t3⟩
            clear t3
            generalize (resL (bound m)).length = n3 at *
            generalize (bound m).isSome = b3 at *
            go_wp2_with fail
            go_ret2
            exact ⟨by rw [HR.out]; exact H3.out, HB.out⟩
end Go.Proofs.YtdajacodfnidfaaGreatDoor
namespace Go.Proofs.YtdajacodfnidfaaGreatDoor
open Go.RowKit Go.Shelf

set_option maxRecDepth 100000 in
set_option maxHeartbeats 4000000 in
theorem light_nine (v : Value) (ls : List (List (List UInt8))) (w : World) (h : Tss w v ls) (hls : ls.length = 9) (_hlb : ls.length < 4611686018427387904) (hz : ∀ l ∈ ls, l.length < 140737488355328) (hzz : ∀ l ∈ ls, ∀ s ∈ l, s.length ≤ 140737488355328) :
    Calls Tryz.prog 5 #[v] w fun e w' => e = .returned (.bool false) ∧ w' = w := by
  have HZ : Hid (∀ l ∈ ls, l.length < 140737488355328) := hz
  have HZZ : Hid (∀ l ∈ ls, ∀ s ∈ l, s.length ≤ 140737488355328) := hzz
  obtain ⟨g, o, ad, cap, rfl, hcap, hne, hce⟩ := h
  obtain ⟨rfl, _⟩ := hne (fun e => by rw [e] at hls; simp at hls)
  have HC : Hid (∀ k l, ls[k]? = some l → ∃ vl, w.cell? ⟨g, o + k, none⟩ = some vl ∧ Tx w vl l) := hce
  have HLS : Hid (ls.length = 9) := hls
  rw [hls]
  clear hne hce hz hzz hls hcap
  go_enter Tryz.func5, Tryz.ntmps5
  go_wp2_with fail
  go_loopw [3, 4] (fun v3 v4 wr => ∃ k m : Nat, v4 = .int .i64 k ∧ k ≤ 9 ∧ v3 = .int .i64 m ∧ m ≤ k * 18295873486192640 ∧ wr = w) (fun _ v4 _ => 9 - (intOf v4).toNat)
  case atStart => exact ⟨0, 0, rfl, by omega, rfl, by omega, rfl⟩
  case round =>
    obtain ⟨k, m, rfl, hk, rfl, hm, hwr⟩ := hrel
    subst hwr
    by_cases hkl : k < 9
    · obtain ⟨l, hl⟩ : ∃ l, ls[k]? = some l := ⟨_, List.getElem?_eq_getElem (by rw [HLS.out]; omega)⟩
      obtain ⟨vl, c0, htx⟩ := HC.out k l hl
      have hlm := List.mem_of_getElem? hl
      have HLZ : Hid (∀ s ∈ l, s.length ≤ 140737488355328) := HZZ.out l hlm
      have hll := HZ.out l hlm
      have HTX : Hid (Tx wr vl l) := htx
      have hki : (k : Int) < 9 := by omega
      have hk8 : (k : Int) ≤ 8 := by omega
      obtain ⟨adl, capl, rfl⟩ := htx.form
      clear htx hl hlm
      by_cases h130 : l.length > 130
      · go_wp2_with fail
        go_ret
        exact ⟨rfl, rfl⟩
      · go_wp2_with fail
        go_loopw [3, 5] (fun v3 v5 w2 => ∃ j m2 : Nat, v5 = .int .i64 j ∧ j ≤ l.length ∧ v3 = .int .i64 m2 ∧ m2 ≤ m + j * 140737488355328 ∧ w2 = wr) (fun _ v5 _ => l.length - (intOf v5).toNat)
        case atStart => exact ⟨0, m, rfl, by omega, rfl, by omega, rfl⟩
        case round =>
          obtain ⟨j, m2, rfl, hj, rfl, hm2, hw2⟩ := hrel
          obtain rfl := hw2.symm
          by_cases hjl : j < l.length
          · obtain ⟨s, hs⟩ : ∃ s, l[j]? = some s := ⟨_, List.getElem?_eq_getElem hjl⟩
            obtain ⟨gl, ol, cap', hv, hcc, hgl, hce⟩ := HTX.out.inRow (fun e => by rw [e] at hjl; simp at hjl)
            cases hv
            have c1 := hce j s hs
            have hsz : (⟨s.toArray⟩ : ByteArray).size = s.length := str_size' s
            have hsl : s.length ≤ 140737488355328 := HLZ.out s (List.mem_of_getElem? hs)
            have hm2b : m2 ≤ 1000000000000000000 := by omega
            clear hce hs
            go_wp2_with fail
            exact ⟨⟨j + 1, m2 + s.length, by simp, by omega, by simp, by omega, trivial⟩, by simp [intOf]; omega⟩
          · have hjz : j = l.length := by omega
            subst hjz
            go_wp2_with fail
            go_roundw
            case rel => exact ⟨k + 1, m2, by simp, by omega, rfl, by omega, trivial⟩
            case measure => simp [intOf]; omega
    · obtain rfl : k = 9 := by omega
      go_wp2_with fail
      go_ret
      exact ⟨rfl, rfl⟩
set_option maxRecDepth 100000 in
set_option maxHeartbeats 4000000 in
theorem light_more (v : Value) (ls : List (List (List UInt8))) (w : World) (h : Tss w v ls) (hls : 9 < ls.length) (hlb : ls.length < 4611686018427387904) (hz : ∀ l ∈ ls, l.length < 140737488355328) (hzz : ∀ l ∈ ls, ∀ s ∈ l, s.length ≤ 140737488355328) :
    Calls Tryz.prog 5 #[v] w fun e w' => e = .returned (.bool false) ∧ w' = w := by
  have HZ : Hid (∀ l ∈ ls, l.length < 140737488355328) := hz
  have HZZ : Hid (∀ l ∈ ls, ∀ s ∈ l, s.length ≤ 140737488355328) := hzz
  obtain ⟨g, o, ad, cap, rfl, hcap, hne, hce⟩ := h
  obtain ⟨rfl, _⟩ := hne (fun e => by rw [e] at hls; simp at hls)
  have HC : Hid (∀ k l, ls[k]? = some l → ∃ vl, w.cell? ⟨g, o + k, none⟩ = some vl ∧ Tx w vl l) := hce
  clear hne hce hz hzz
  go_enter Tryz.func5, Tryz.ntmps5
  go_wp2_with fail
  go_loopw [3, 4] (fun v3 v4 wr => ∃ k m : Nat, v4 = .int .i64 k ∧ k ≤ 9 ∧ v3 = .int .i64 m ∧ m ≤ k * 18295873486192640 ∧ wr = w) (fun _ v4 _ => 9 - (intOf v4).toNat)
  case atStart => exact ⟨0, 0, rfl, by omega, rfl, by omega, rfl⟩
  case round =>
    obtain ⟨k, m, rfl, hk, rfl, hm, hwr⟩ := hrel
    subst hwr
    by_cases hkl : k < 9
    · obtain ⟨l, hl⟩ : ∃ l, ls[k]? = some l := ⟨_, List.getElem?_eq_getElem (by omega)⟩
      obtain ⟨vl, c0, htx⟩ := HC.out k l hl
      have hlm := List.mem_of_getElem? hl
      have HLZ : Hid (∀ s ∈ l, s.length ≤ 140737488355328) := HZZ.out l hlm
      have hll := HZ.out l hlm
      have HTX : Hid (Tx wr vl l) := htx
      have hki : (k : Int) < (ls.length : Int) := by omega
      have hk8 : (k : Int) ≤ 8 := by omega
      obtain ⟨adl, capl, rfl⟩ := htx.form
      clear htx hl hlm
      by_cases h130 : l.length > 130
      · go_wp2_with fail
        go_ret
        exact ⟨rfl, rfl⟩
      · go_wp2_with fail
        go_loopw [3, 5] (fun v3 v5 w2 => ∃ j m2 : Nat, v5 = .int .i64 j ∧ j ≤ l.length ∧ v3 = .int .i64 m2 ∧ m2 ≤ m + j * 140737488355328 ∧ w2 = wr) (fun _ v5 _ => l.length - (intOf v5).toNat)
        case atStart => exact ⟨0, m, rfl, by omega, rfl, by omega, rfl⟩
        case round =>
          obtain ⟨j, m2, rfl, hj, rfl, hm2, hw2⟩ := hrel
          obtain rfl := hw2.symm
          by_cases hjl : j < l.length
          · obtain ⟨s, hs⟩ : ∃ s, l[j]? = some s := ⟨_, List.getElem?_eq_getElem hjl⟩
            obtain ⟨gl, ol, cap', hv, hcc, hgl, hce⟩ := HTX.out.inRow (fun e => by rw [e] at hjl; simp at hjl)
            cases hv
            have c1 := hce j s hs
            have hsz : (⟨s.toArray⟩ : ByteArray).size = s.length := str_size' s
            have hsl : s.length ≤ 140737488355328 := HLZ.out s (List.mem_of_getElem? hs)
            have hm2b : m2 ≤ 1000000000000000000 := by omega
            clear hce hs
            go_wp2_with fail
            exact ⟨⟨j + 1, m2 + s.length, by simp, by omega, by simp, by omega, trivial⟩, by simp [intOf]; omega⟩
          · have hjz : j = l.length := by omega
            subst hjz
            go_wp2_with fail
            go_roundw
            case rel => exact ⟨k + 1, m2, by simp, by omega, rfl, by omega, trivial⟩
            case measure => simp [intOf]; omega
    · obtain rfl : k = 9 := by omega
      have hb8 : ¬ (ls.length : Int) ≤ 8 := by omega
      have h9 : (9 : Int) < (ls.length : Int) := by omega
      go_wp2_with fail
      go_ret
      exact ⟨rfl, rfl⟩
theorem light_all (v : Value) (ls : List (List (List UInt8))) (w : World) (h : Tss w v ls) (hlb : ls.length < 4611686018427387904) (hz : ∀ l ∈ ls, l.length < 140737488355328) (hzz : ∀ l ∈ ls, ∀ s ∈ l, s.length ≤ 140737488355328) :
    Calls Tryz.prog 5 #[v] w fun e w' => ∃ b, e = .returned (.bool b) ∧ w' = w ∧ (b = true → ls.length ≤ 8 ∧ lightB ls = true) := by
  rcases Nat.lt_or_ge 8 ls.length with h8 | h8
  · rcases Nat.lt_or_ge 9 ls.length with h9 | h9
    · refine (light_more v ls w h h9 hlb hz hzz).mono ?_
      rintro e w' ⟨rfl, hw⟩
      exact ⟨false, rfl, hw, fun h => by cases h⟩
    · refine (light_nine v ls w h (by omega) hlb hz hzz).mono ?_
      rintro e w' ⟨rfl, hw⟩
      exact ⟨false, rfl, hw, fun h => by cases h⟩
  · refine (light_any v ls w h h8 hz hzz).mono ?_
    rintro e w' ⟨rfl, hw⟩
    exact ⟨_, rfl, hw, fun h => ⟨h8, h⟩⟩
theorem light_bounds {ls : List (List (List UInt8))} (h : lightB ls = true) : (∀ l ∈ ls, l.length ≤ 130) ∧ ∀ l ∈ ls, ∀ s ∈ l, s.length ≤ 20000 := by
  obtain ⟨h1, h2⟩ := (lightB_iff ls).1 h
  exact ⟨h1, fun l hl s hs => by
    have h3 := sumL_mem l s hs
    have h4 := sumLs_mem ls l hl
    omega⟩
/-- The program's answer: a list and an error; the document's: a list and a truth value. -/
def PairP (a : Addr) (r : Option (List (List UInt8))) (e : Ending) (w : World) : Prop := ∃ ad q cap, e = .returned (.tuple #[.slice ad q cap, resV a r]) ∧ Tx w (.slice ad q cap) (resL r)
def PairD (r : Option (List (List UInt8))) (e : Ending) (w : World) : Prop := ∃ ad q cap, e = .returned (.tuple #[.slice ad q cap, .bool r.isSome]) ∧ Tx w (.slice ad q cap) (resL r)
theorem GotL.pair {B : Nat} {a : Addr} {r : Option (List (List UInt8))} {e : Ending} {w : World} (h : GotL B a r e w) : PairP a r e w := by
  obtain ⟨v, rfl, ho⟩ := h.owns
  obtain ⟨ad, cap, rfl⟩ := owns_slice ho
  exact ⟨ad, _, cap, rfl, Tx.owned ho⟩
theorem RGot.pair {r : Option (List (List UInt8))} {e : Ending} {w : World} (h : RGot r e w) : PairD r e w := by
  obtain ⟨ad, cap, rfl, h⟩ := h
  exact ⟨ad, _, cap, rfl, h⟩
set_option maxRecDepth 100000 in
set_option maxHeartbeats 1000000 in
theorem sameP_any (W : World) (ea : Nat → Addr) (hE : Er17 W ea) (r : Option (List (List UInt8))) (ad1 ad2 : Option Addr) (q1 q2 cap1 cap2 : Nat) (h1 : Tx W (.slice ad1 q1 cap1) (resL r)) (h2 : Tx W (.slice ad2 q2 cap2) (resL r)) (hl : (resL r).length < 4294967296) :
    Calls Tryz.prog 10 #[.slice ad1 q1 cap1, resV (ea 0) r, .slice ad2 q2 cap2, .bool r.isSome] W fun e w' => e = .returned (.bool true) ∧ Below W.heap.size W w' := by
  cases r with
  | none =>
    obtain ⟨x, y, hv⟩ := h1.form
    cases hv
    have HI : Hid (Calls Tryz.prog 36 #[bigV (ea 0), .int .i64 114] W fun e w' => e = .returned (.bool true) ∧ Below W.heap.size W w') := is_big W ea hE
    clear h1 h2 hE
    show Calls Tryz.prog 10 #[.slice ad1 0 cap1, bigV (ea 0), .slice ad2 q2 cap2, .bool false] W _
    go_enter Tryz.func10, Tryz.ntmps10
    go_wp2_with fail
    refine Calls.mono HI.out ?_
    rintro e w1 ⟨rfl, hb1⟩
    go_wp2_with fail
    go_ret
    exact ⟨rfl, hb1⟩
  | some l =>
    have HS : Hid (Calls Tryz.prog 20 #[.slice ad1 q1 cap1, .slice ad2 q2 cap2] W fun e w' => e = .returned (.bool true) ∧ Below W.heap.size W w') := by
      have := sameTexts_any _ _ l l W h1.texts h2.texts hl hl
      rw [show decide (l = l) = true from decide_eq_true rfl] at this
      exact this
    clear h1 h2 hE
    show Calls Tryz.prog 10 #[.slice ad1 q1 cap1, .nilIface, .slice ad2 q2 cap2, .bool true] W _
    go_enter Tryz.func10, Tryz.ntmps10
    go_wp2_with fail
    refine Calls.mono HS.out ?_
    rintro e w1 ⟨rfl, hb1⟩
    go_wp2_with fail
    go_ret
    exact ⟨rfl, hb1⟩
/-- What is picked. -/
def pickL (l : List (List UInt8)) (n : Int) : List (List UInt8) := if 1 ≤ n ∧ n ≤ l.length then [l.getD (n - 1).toNat []] else []
theorem pickP_any (v : Value) (l : List (List UInt8)) (n : Int) (w : World) (h : Tx w v l) (hl : l.length < 4294967296) (h0 : -9223372036854775808 ≤ n) (h1 : n ≤ 9223372036854775807) :
    Calls Tryz.prog 23 #[v, .int .i64 n] w fun e w' => ∃ ad q cap, e = .returned (.slice ad q cap) ∧ Tx w' (.slice ad q cap) (pickL l n) ∧ Below w.heap.size w w' := by
  unfold pickL
  by_cases hn : 1 ≤ n ∧ n ≤ l.length
  · rw [if_pos hn]
    obtain ⟨i, hi⟩ : ∃ i : Nat, n = (i : Int) + 1 := ⟨(n - 1).toNat, by omega⟩
    subst hi
    have hil : i < l.length := by omega
    rw [show ((i : Int) + 1 - 1).toNat = i by omega, List.getD_eq_getElem?_getD, List.getElem?_eq_getElem hil]
    refine (pick_yes v l i l[i] w h (List.getElem?_eq_getElem hil) hl).mono ?_
    rintro e w' ⟨rfl, hw⟩
    subst hw
    exact ⟨_, _, _, rfl, Tx.one w _, below_new w _⟩
  · rw [if_neg hn]
    refine (pick_no v l n w h (by omega) h0 h1).mono ?_
    rintro e w' ⟨rfl, hw⟩
    subst hw
    exact ⟨_, _, _, rfl, .inl ⟨rfl, rfl⟩, Below.refl _ _⟩
end Go.Proofs.YtdajacodfnidfaaGreatDoor
