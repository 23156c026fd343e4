/- Both kernels side by side. -/
import Derived.Test.YthhghkjgffcpeaaDoorRK7
import Derived.Test.YthhghkjgffcpeaaDoorBeg2
namespace Go.Proofs.YthhghkjgffcpeaaDoor
open Go.RowKit Go.Shelf

/-- The program's kernel and the document's, in blocks of their own, none of these blocks. -/
def Two (W : World) (P : Nat → Prop) (kb xb : Nat) (rv : Value) (R : List Rw) (F1 : Fls) (E1 : List Ev) (F2 : Fls) (E2 : List Ev) : Prop :=
  ∃ (K1 : Nat → Prop) (mb : Nat) (ev rv1 : Value) (Y1 : List (Rw × Value)) (X1 : List (Ev × Value)) (K2 : Nat → Prop) (fv tv : Value) (X2 : List (Ev × Value)),
    Kern W K1 kb mb ev rv1 F1 Y1 X1 ∧ Y1.map Prod.fst = R ∧ X1.map Prod.fst = E1 ∧ Rk W K2 xb fv rv tv F2 X2 ∧ X2.map Prod.fst = E2 ∧ (∀ i, K1 i → ¬ K2 i) ∧ (∀ i, K1 i → ¬ P i) ∧ (∀ i, K2 i → ¬ P i) ∧ (∀ i, P i → i < W.heap.size)
/-- Nothing is too great. -/
structure Sm (F : Fls) (E : List Ev) (n : Nat) : Prop where
  f : F.length ≤ 50 + n
  fn : ∀ p ∈ F, p.1.length ≤ 60000 ∧ p.2.length ≤ 60000
  e : E.length ≤ n
  el : ∀ e ∈ E, e.l.length ≤ 20
section
variable {W w' : World} {P : Nat → Prop} {kb xb : Nat} {rv : Value} {R : List Rw} {F1 F2 : Fls} {E1 E2 : List Ev}
theorem Two.below (h : Two W P kb xb rv R F1 E1 F2 E2) (hb : Below W.heap.size W w') : Two w' P kb xb rv R F1 E1 F2 E2 := by
  obtain ⟨K1, mb, ev, rv1, Y1, X1, K2, fv, tv, X2, h1, h2, h3, h4, h5, h6, h7, h8, h9⟩ := h
  exact ⟨K1, mb, ev, rv1, Y1, X1, K2, fv, tv, X2, h1.below hb, h2, h3, h4.below hb, h5, h6, h7, h8, fun i hi => Nat.lt_of_lt_of_le (h9 i hi) hb.size⟩
theorem Two.ris (h : Two W P kb xb rv R F1 E1 F2 E2) : Ris F1 := by
  obtain ⟨K1, mb, ev, rv1, Y1, X1, K2, fv, tv, X2, h1, _⟩ := h
  exact h1.ris
theorem two_one {K1 K1' K2 : Nat → Prop} {mb : Nat} {ev' rv1 fv tv : Value} {F1' : Fls} {E1' : List Ev} {Y1 : List (Rw × Value)} {X1' X2 : List (Ev × Value)} (hk : Kern w' K1' kb mb ev' rv1 F1' Y1 X1') (hs : Stp W K1 w' K1') (h2 : Y1.map Prod.fst = R) (h3 : X1'.map Prod.fst = E1') (h4 : Rk W K2 xb fv rv tv F2 X2) (h5 : X2.map Prod.fst = E2) (h6 : ∀ i, K1 i → ¬ K2 i) (h7 : ∀ i, K1 i → ¬ P i) (h8 : ∀ i, K2 i → ¬ P i) (h9 : ∀ i, P i → i < W.heap.size) :
    Two w' P kb xb rv R F1' E1' F2 E2 ∧ Turn (fun i => ¬ P i) W w' := by
  refine ⟨⟨K1', mb, ev', rv1, Y1, X1', K2, fv, tv, X2, hk, h2, h3, h4.turn hs.1 (fun i hi h => h6 i h hi), h5, fun i hi hj => ?_, fun i hi hp => ?_, h8, fun i hi => Nat.lt_of_lt_of_le (h9 i hi) hs.1.size⟩, hs.1.mono h7⟩
  · rcases hs.2 i hi with h | h
    · exact h6 i h hj
    · have := h4.lt i hj
      omega
  · rcases hs.2 i hi with h | h
    · exact h7 i h hp
    · have := h9 i hp
      omega
theorem two_two {K1 K2 K2' : Nat → Prop} {mb : Nat} {ev rv1 fv' tv' : Value} {F2' : Fls} {E2' : List Ev} {Y1 : List (Rw × Value)} {X1 X2' : List (Ev × Value)} (hk : Rk w' K2' xb fv' rv tv' F2' X2') (hs : Stp W K2 w' K2') (h1 : Kern W K1 kb mb ev rv1 F1 Y1 X1) (h2 : Y1.map Prod.fst = R) (h3 : X1.map Prod.fst = E1) (h5 : X2'.map Prod.fst = E2') (h6 : ∀ i, K1 i → ¬ K2 i) (h7 : ∀ i, K1 i → ¬ P i) (h8 : ∀ i, K2 i → ¬ P i) (h9 : ∀ i, P i → i < W.heap.size) :
    Two w' P kb xb rv R F1 E1 F2' E2' ∧ Turn (fun i => ¬ P i) W w' := by
  refine ⟨⟨K1, mb, ev, rv1, Y1, X1, K2', fv', tv', X2', h1.turn hs.1 h6, h2, h3, hk, h5, fun i hi hj => ?_, h7, fun i hi hp => ?_, fun i hi => Nat.lt_of_lt_of_le (h9 i hi) hs.1.size⟩, hs.1.mono h8⟩
  · rcases hs.2 i hj with h | h
    · exact h6 i hi h
    · have := h1.lt i hi
      omega
  · rcases hs.2 i hi with h | h
    · exact h8 i h hp
    · have := h9 i hp
      omega
theorem Two.mark1 (h : Two W P kb xb rv R F1 E1 F2 E2) (k n : Int) (hE : E1.length < 60000) :
    Calls Tryd.prog 24 #[kP kb, .int .i64 k, .int .i64 n] W fun r w' => r = .returned (.tuple #[]) ∧ Two w' P kb xb rv R F1 (E1 ++ marked k n) F2 E2 ∧ Turn (fun i => ¬ P i) W w' := by
  obtain ⟨K1, mb, ev, rv1, Y1, X1, K2, fv, tv, X2, h1, h2, h3, h4, h5, h6, h7, h8, h9⟩ := h
  refine (mark_any k n h1 (by rw [len_of h3]; omega)).mono ?_
  rintro e w' ⟨rfl, ev', X', K', k1, k2, k3⟩
  exact ⟨rfl, two_one k1 k3 h2 (map_app h3 k2) h4 h5 h6 h7 h8 h9⟩
theorem Two.mark2 (h : Two W P kb xb rv R F1 E1 F2 E2) (k n : Int) (hE : E2.length < 60000) :
    Calls Tryd.prog 25 #[xP xb, .int .i64 k, .int .i64 n] W fun r w' => r = .returned (.tuple #[]) ∧ Two w' P kb xb rv R F1 E1 F2 (E2 ++ marked k n) ∧ Turn (fun i => ¬ P i) W w' := by
  obtain ⟨K1, mb, ev, rv1, Y1, X1, K2, fv, tv, X2, h1, h2, h3, h4, h5, h6, h7, h8, h9⟩ := h
  refine (rmark_any h4 k n (by rw [len_of h5]; exact hE)).mono ?_
  rintro e w' ⟨rfl, tv', X', K', k1, k2, k3⟩
  exact ⟨rfl, two_two k1 k3 h1 h2 h3 (map_app h5 k2) h6 h7 h8 h9⟩
theorem Two.open1 (h : Two W P kb xb rv R F1 E1 F2 E2) (f : Txt) (m : Int) (hE : E1.length < 60000) (hF : F1.length < 60000) (hf : f.length < 60000) :
    Calls Tryd.prog 20 #[kP kb, str f, .int .i64 m] W fun r w' => r = .returned (.tuple #[str (openD F1 f m), .bool (openB F1 f m)]) ∧ Two w' P kb xb rv R (openF F1 f m) (E1 ++ openE F1 f m) F2 E2 ∧ Turn (fun i => ¬ P i) W w' := by
  obtain ⟨K1, mb, ev, rv1, Y1, X1, K2, fv, tv, X2, h1, h2, h3, h4, h5, h6, h7, h8, h9⟩ := h
  refine (open_any f m h1 (by rw [len_of h3]; omega) (by omega) (by omega)).mono ?_
  rintro e w' ⟨rfl, ev', X', K', k1, k2, k3⟩
  exact ⟨rfl, two_one k1 k3 h2 (map_app h3 k2) h4 h5 h6 h7 h8 h9⟩
theorem Two.open2 (h : Two W P kb xb rv R F1 E1 F2 E2) (f : Txt) (m : Int) (hE : E2.length < 60000) (hF : F2.length < 60000) (hR : Ris F2) :
    Calls Tryd.prog 21 #[xP xb, str f, .int .i64 m] W fun r w' => r = .returned (.tuple #[str (openD F2 f m), .bool (openB F2 f m)]) ∧ Two w' P kb xb rv R F1 E1 (openF F2 f m) (E2 ++ openE F2 f m) ∧ Turn (fun i => ¬ P i) W w' := by
  obtain ⟨K1, mb, ev, rv1, Y1, X1, K2, fv, tv, X2, h1, h2, h3, h4, h5, h6, h7, h8, h9⟩ := h
  refine (ropen_any h4 f m hF (by rw [len_of h5]; exact hE) hR).mono ?_
  rintro e w' ⟨rfl, fv', tv', X', K', k1, k2, k3⟩
  exact ⟨rfl, two_two k1 k3 h1 h2 h3 (map_app h5 k2) h6 h7 h8 h9⟩
theorem Two.write1 (h : Two W P kb xb rv R F1 E1 F2 E2) (f d : Txt) (ea : Addr) (hE : E1.length < 60000) (hF : F1.length < 60000) (hf : f.length < 60000) (hd : d.length < 60000) (hdat : (datF F1 f).length < 4294967296) (hEr : Er W 0 ea) :
    Calls Tryd.prog 22 #[kP kb, str f, str d] W fun r w' => r = .returned (errR (writeB F1 f d) ea) ∧ Two w' P kb xb rv R (writeF F1 f d) (E1 ++ writeE F1 f d) F2 E2 ∧ Turn (fun i => ¬ P i) W w' := by
  obtain ⟨K1, mb, ev, rv1, Y1, X1, K2, fv, tv, X2, h1, h2, h3, h4, h5, h6, h7, h8, h9⟩ := h
  refine (write_any f d ea h1 (by rw [len_of h3]; omega) (by omega) (by omega) (by omega) hdat hEr).mono ?_
  rintro e w' ⟨rfl, ev', X', K', k1, k2, k3⟩
  exact ⟨rfl, two_one k1 k3 h2 (map_app h3 k2) h4 h5 h6 h7 h8 h9⟩
theorem Two.write2 (h : Two W P kb xb rv R F1 E1 F2 E2) (f d : Txt) (hE : E2.length < 60000) (hF : F2.length < 60000) (hR : Ris F2) (hd : d.length < 60000) (hdat : (datF F2 f).length < 4294967296) :
    Calls Tryd.prog 23 #[xP xb, str f, str d] W fun r w' => r = .returned (.bool (writeB F2 f d)) ∧ Two w' P kb xb rv R F1 E1 (writeF F2 f d) (E2 ++ writeE F2 f d) ∧ Turn (fun i => ¬ P i) W w' := by
  obtain ⟨K1, mb, ev, rv1, Y1, X1, K2, fv, tv, X2, h1, h2, h3, h4, h5, h6, h7, h8, h9⟩ := h
  refine (rwrite_any h4 f d hF (by rw [len_of h5]; exact hE) hR (by omega) hdat).mono ?_
  rintro e w' ⟨rfl, fv', tv', X', K', k1, k2, k3⟩
  exact ⟨rfl, two_two k1 k3 h1 h2 h3 (map_app h5 k2) h6 h7 h8 h9⟩
theorem Two.exec1 (h : Two W P kb xb rv R F1 E1 F2 E2) (name inp : Txt) (args : List Txt) (va : Value) (o : Option Rw) (ho : rowOf R name args = o) (hE : E1.length < 60000) (hY : R.length < 60000) (hra : ∀ r ∈ R, r.args.length < 60000 ∧ r.out.length < 60001) (ha : Tx W va args) (hla : args.length < 60000) (hinp : inp.length < 60000) :
    Calls Tryd.prog 16 #[kP kb, str name, str inp, va] W fun r w' => r = .returned (.tuple #[str (outOf o inp), .int .i64 (statOf o), .bool o.isSome]) ∧ Two w' P kb xb rv R F1 (E1 ++ [⟨1, statOf o, name, heardOf o inp, args⟩]) F2 E2 ∧ Turn (fun i => ¬ P i) W w' := by
  obtain ⟨K1, mb, ev, rv1, Y1, X1, K2, fv, tv, X2, h1, h2, h3, h4, h5, h6, h7, h8, h9⟩ := h
  refine (exec_any name inp args va h1 (by rw [len_of h3]; omega) (by rw [len_of h2]; omega) ha (by omega) (all_of h2 fun r hr => Nat.lt_trans (hra r hr).1 (by decide)) (by omega) (all_of h2 fun r hr => Nat.lt_trans (hra r hr).2 (by decide)) o (by rw [h2]; exact ho)).mono ?_
  rintro e w' ⟨rfl, ev', lv', K', k1, k3⟩
  exact ⟨rfl, two_one k1 k3 h2 (map_app h3 rfl) h4 h5 h6 h7 h8 h9⟩
theorem Two.exec2 (h : Two W P kb xb rv R F1 E1 F2 E2) {Y : List (Rw × Value)} (hr : RwAt W rv Y) (hYR : Y.map Prod.fst = R) (name inp : Txt) (args : List Txt) (va : Value) (o : Option Rw) (ho : rowOf R name args = o) (hE : E2.length < 60000) (hY : R.length < 60000) (hra : ∀ r ∈ R, r.args.length < 60000 ∧ r.out.length < 60001) (ha : Tx W va args) (hla : args.length < 60000) (hinp : inp.length < 60000) :
    Calls Tryd.prog 17 #[xP xb, str name, str inp, va] W fun r w' => r = .returned (.tuple #[str (outOf o inp), .int .i64 (statOf o), .bool o.isSome]) ∧ Two w' P kb xb rv R F1 E1 F2 (E2 ++ [⟨1, statOf o, name, heardOf o inp, args⟩]) ∧ Turn (fun i => ¬ P i) W w' := by
  obtain ⟨K1, mb, ev, rv1, Y1, X1, K2, fv, tv, X2, h1, h2, h3, h4, h5, h6, h7, h8, h9⟩ := h
  refine (rexec_any name inp args va h4 hr (by rw [len_of h5]; exact hE) (by rw [len_of hYR]; exact hY) ha (by omega) (all_of hYR fun r hr => Nat.lt_trans (hra r hr).1 (by decide)) (all_of hYR fun r hr => Nat.lt_trans (hra r hr).2 (by decide)) (by omega) o (by rw [hYR]; exact ho)).mono ?_
  rintro e w' ⟨rfl, fv', tv', X', K', k1, k2, k3⟩
  exact ⟨rfl, two_two k1 k3 h1 h2 h3 (map_app h5 k2) h6 h7 h8 h9⟩
theorem Two.reads1 (h : Two W P kb xb rv R F1 E1 F2 E2) (name : Txt) (args : List Txt) (va : Value) (o : Option Rw) (ho : rowOf R name args = o) (hY : R.length < 60000) (hra : ∀ r ∈ R, r.args.length < 60000 ∧ r.out.length < 60001) (ha : Tx W va args) (hla : args.length < 60000) :
    Calls Tryd.prog 18 #[kP kb, str name, va] W fun e w' => e = .returned (.bool (readsB o)) ∧ Below W.heap.size W w' := by
  obtain ⟨K1, mb, ev, rv1, Y1, X1, K2, fv, tv, X2, h1, h2, h3, h4, h5, h6, h7, h8, h9⟩ := h
  exact reads_any name args va h1 (by rw [len_of h2]; omega) ha (by omega) (all_of h2 fun r hr => Nat.lt_trans (hra r hr).1 (by decide)) o (by rw [h2]; exact ho)
theorem Two.reads2 (h : Two W P kb xb rv R F1 E1 F2 E2) {Y : List (Rw × Value)} (hr : RwAt W rv Y) (hYR : Y.map Prod.fst = R) (name : Txt) (args : List Txt) (va : Value) (o : Option Rw) (ho : rowOf R name args = o) (hY : R.length < 60000) (hra : ∀ r ∈ R, r.args.length < 60000 ∧ r.out.length < 60001) (ha : Tx W va args) (hla : args.length < 60000) :
    Calls Tryd.prog 19 #[xP xb, str name, va] W fun e w' => e = .returned (.bool (readsB o)) ∧ Below W.heap.size W w' := by
  obtain ⟨K1, mb, ev, rv1, Y1, X1, K2, fv, tv, X2, h1, h2, h3, h4, h5, h6, h7, h8, h9⟩ := h
  exact rreads_any name args va h4 hr (by rw [len_of hYR]; exact hY) ha (by omega) (all_of hYR fun r hr => Nat.lt_trans (hra r hr).1 (by decide)) o (by rw [hYR]; exact ho)
theorem Two.len1 (h : Two W P kb xb rv R F1 E1 F2 E2) : Calls Tryd.prog 26 #[kP kb] W fun e w' => e = .returned (.int .i64 E1.length) ∧ w' = W := by
  obtain ⟨K1, mb, ev, rv1, Y1, X1, K2, fv, tv, X2, h1, h2, h3, h4, h5, h6, h7, h8, h9⟩ := h
  refine (len_any h1).mono ?_
  rintro e w' ⟨rfl, hw⟩
  exact ⟨by rw [len_of h3], hw⟩
/-- The document's events and files as they lie. -/
theorem Two.cells2 (h : Two W P kb xb rv R F1 E1 F2 E2) : ∃ fv tv, W.cell? ⟨xb, 0, none⟩ = some fv ∧ W.cell? ⟨xb, 2, none⟩ = some tv ∧ FlAt W fv F2 ∧ ∃ X2, EvAt W tv X2 ∧ X2.map Prod.fst = E2 := by
  obtain ⟨K1, mb, ev, rv1, Y1, X1, K2, fv, tv, X2, h1, h2, h3, h4, h5, h6, h7, h8, h9⟩ := h
  exact ⟨fv, tv, h4.xc.cell 0, h4.xc.cell 2, FlAt.owned h4.fr, X2, EvAt.owned h4.er fun p hp => (h4.xt p hp).tx, h5⟩
theorem Two.trace1 (h : Two W P kb xb rv R F1 E1 F2 E2) (hE : E1.length < 60000) (hl : ∀ e ∈ E1, e.l.length < 60000) : Calls Tryd.prog 28 #[kP kb] W fun e w' => ∃ v' X', e = .returned v' ∧ EvAt w' v' X' ∧ X'.map Prod.fst = E1 ∧ Below W.heap.size W w' := by
  obtain ⟨K1, mb, ev, rv1, Y1, X1, K2, fv, tv, X2, h1, h2, h3, h4, h5, h6, h7, h8, h9⟩ := h
  refine (trace_any h1 (by rw [len_of h3]; omega) (all_of h3 fun e he => Nat.lt_trans (hl e he) (by decide))).mono ?_
  rintro e w' ⟨v', X', rfl, k1, k2, k3⟩
  exact ⟨v', X', rfl, k1.at, k2.trans h3, k3⟩
theorem Two.files1 (h : Two W P kb xb rv R F1 E1 F2 E2) (hF : F1.length < 60000) (hN : ∀ p ∈ F1, p.1.length < 4294967296) : Calls Tryd.prog 30 #[kP kb] W fun e w' => ∃ v', e = .returned v' ∧ FlAt w' v' F1 ∧ Below W.heap.size W w' := by
  obtain ⟨K1, mb, ev, rv1, Y1, X1, K2, fv, tv, X2, h1, h2, h3, h4, h5, h6, h7, h8, h9⟩ := h
  refine (files_any h1 (by omega) hN).mono ?_
  rintro e w' ⟨v', rfl, k1, k2⟩
  exact ⟨v', rfl, FlAt.owned k1, k2⟩
theorem Two.names1 (h : Two W P kb xb rv R F1 E1 F2 E2) (hF : F1.length < 60000) : Calls Tryd.prog 32 #[kP kb] W fun e w' => ∃ v', e = .returned v' ∧ Tx w' v' (F1.map Prod.fst) ∧ Below W.heap.size W w' := by
  obtain ⟨K1, mb, ev, rv1, Y1, X1, K2, fv, tv, X2, h1, h2, h3, h4, h5, h6, h7, h8, h9⟩ := h
  refine (names_any h1 (by omega)).mono ?_
  rintro e w' ⟨v', rfl, k1, k2⟩
  exact ⟨v', rfl, Tx.owned k1, k2⟩
theorem Two.names2 (h : Two W P kb xb rv R F1 E1 F2 E2) (hF : F2.length < 60000) : Calls Tryd.prog 33 #[xP xb] W fun e w' => ∃ v', e = .returned v' ∧ Tx w' v' (F2.map Prod.fst) ∧ Below W.heap.size W w' := by
  obtain ⟨K1, mb, ev, rv1, Y1, X1, K2, fv, tv, X2, h1, h2, h3, h4, h5, h6, h7, h8, h9⟩ := h
  refine (rnames_any h4 hF).mono ?_
  rintro e w' ⟨v', rfl, k1, k2⟩
  exact ⟨v', rfl, Tx.owned k1, k2⟩
end

/-! ### a thing that is told, in its block beside them -/
/-- Both kernels, and the thing in its block. -/
def Sit (W w : World) (bd : Nat) (cs : Array Value) (kb xb : Nat) (rv : Value) (R : List Rw) (F1 : Fls) (E1 : List Ev) (F2 : Fls) (E2 : List Ev) : Prop :=
  Two w (fun i => i < W.heap.size ∨ i = bd) kb xb rv R F1 E1 F2 E2 ∧ Cel w bd 41 cs ∧ Below W.heap.size W w
/-- Both kernels, and what came in. -/
def Top (W w : World) (kb xb : Nat) (rv : Value) (R : List Rw) (F : Fls) (E : List Ev) : Prop := Two w (fun i => i < W.heap.size) kb xb rv R F E F E ∧ Below W.heap.size W w
section
variable {W w w' : World} {bd kb xb : Nat} {cs : Array Value} {rv : Value} {R : List Rw} {F1 F2 F3 F4 F : Fls} {E1 E2 E3 E4 E : List Ev}
theorem Sit.below (h : Sit W w bd cs kb xb rv R F1 E1 F2 E2) (hb : Below w.heap.size w w') : Sit W w' bd cs kb xb rv R F1 E1 F2 E2 :=
  ⟨h.1.below hb, h.2.1.below hb h.2.1.lt, h.2.2.trans (hb.mono h.2.2.size)⟩
theorem Sit.drew (h : Sit W w bd cs kb xb rv R F1 E1 F2 E2) : Sit W w.drew bd cs kb xb rv R F1 E1 F2 E2 := h.below (Below.refl _ w).drew
theorem Sit.next (h : Sit W w bd cs kb xb rv R F1 E1 F2 E2) (h2 : Two w' (fun i => i < W.heap.size ∨ i = bd) kb xb rv R F3 E3 F4 E4 ∧ Turn (fun i => ¬ (i < W.heap.size ∨ i = bd)) w w') : Sit W w' bd cs kb xb rv R F3 E3 F4 E4 :=
  ⟨h2.1, h.2.1.turn h2.2 (fun hn => hn (.inr rfl)), h.2.2.trans (h2.2.below (fun _ hi => Nat.le_of_not_lt fun hl => hi (.inl hl)) h.2.2.size)⟩
theorem Top.sit (h : Top W w kb xb rv R F E) (cs : Array Value) : Sit W (w.alloc (.cells cs 41)) w.heap.size cs kb xb rv R F E F E := by
  obtain ⟨⟨K1, mb, ev, rv1, Y1, X1, K2, fv, tv, X2, h1, h2, h3, h4, h5, h6, h7, h8, h9⟩, hb⟩ := h
  have hn := below_new w (.cells cs 41)
  refine ⟨⟨K1, mb, ev, rv1, Y1, X1, K2, fv, tv, X2, h1.below hn, h2, h3, h4.below hn, h5, h6, fun i hi hp => hp.elim (h7 i hi) fun e => ?_, fun i hi hp => hp.elim (h8 i hi) fun e => ?_, fun i hp => hp.elim (fun h => Nat.lt_of_lt_of_le (h9 i h) hn.size) fun e => ?_⟩, Cel.new w 41 cs, hb.trans (hn.mono hb.size)⟩
  · have := h1.lt i hi
    omega
  · have := h4.lt i hi
    omega
  · subst e
    simp
theorem Sit.top (h : Sit W w bd cs kb xb rv R F E F E) : Top W w kb xb rv R F E := by
  obtain ⟨⟨K1, mb, ev, rv1, Y1, X1, K2, fv, tv, X2, h1, h2, h3, h4, h5, h6, h7, h8, h9⟩, _, hb⟩ := h
  exact ⟨⟨K1, mb, ev, rv1, Y1, X1, K2, fv, tv, X2, h1, h2, h3, h4, h5, h6, fun i hi hp => h7 i hi (.inl hp), fun i hi hp => h8 i hi (.inl hp), fun i hp => h9 i (.inl hp)⟩, hb⟩
theorem Top.below (h : Top W w kb xb rv R F E) (hb : Below w.heap.size w w') : Top W w' kb xb rv R F E := ⟨h.1.below hb, h.2.trans (hb.mono h.2.size)⟩
theorem Top.drew (h : Top W w kb xb rv R F E) : Top W w.drew kb xb rv R F E := h.below (Below.refl _ w).drew
/-- Both are made. -/
theorem top_made {K1 K2 : Nat → Prop} {mb : Nat} {ev rv1 fv tv : Value} {Y1 : List (Rw × Value)} {w1 : World} (h1 : Kern w1 K1 kb mb ev rv1 F Y1 []) (h2 : Y1.map Prod.fst = R) (h3 : ∀ i, K1 i → W.heap.size ≤ i) (hb1 : Below W.heap.size W w1) (h4 : Rk w K2 xb fv rv tv F []) (h5 : ∀ i, K2 i → w1.heap.size ≤ i) (hb2 : Below w1.heap.size w1 w) : Top W w kb xb rv R F [] := by
  refine ⟨⟨K1, mb, ev, rv1, Y1, [], K2, fv, tv, [], h1.below hb2, h2, rfl, h4, rfl, fun i hi hj => ?_, fun i hi hp => ?_, fun i hi hp => ?_, fun i hi => ?_⟩, hb1.trans (hb2.mono hb1.size)⟩
  · have := h1.lt i hi
    have := h5 i hj
    omega
  · have := h3 i hi
    omega
  · have := h5 i hi
    have := hb1.size
    omega
  · have := hb1.size
    have := hb2.size
    omega
end

/-! ### what grows, and how far -/
theorem mem_put {F : Fls} {k d : Txt} {p : Txt × Txt} (h : p ∈ putF F k d) : p = (k, d) ∨ p ∈ F := by
  unfold putF at h
  rcases (mem_ins _ _ _).1 h with h | h
  · exact .inl h
  · exact .inr (List.mem_filter.1 h).1
theorem dat_bound {F : Fls} (h : ∀ p ∈ F, p.1.length ≤ 60000 ∧ p.2.length ≤ 60000) (k : Txt) : (datF F k).length ≤ 60000 := by
  unfold datF
  cases hf : F.find? (fun p => p.1 == k) with
  | none => exact Nat.zero_le _
  | some p => exact (h p (List.mem_of_find?_eq_some hf)).2
theorem Sm.put {F : Fls} {E E' : List Ev} {n : Nat} {k d : Txt} (h : Sm F E n) (hk : k.length ≤ 60000) (hd : d.length ≤ 60000) (hE : E'.length ≤ 1) (hl : ∀ e ∈ E', e.l.length ≤ 20) : Sm (putF F k d) (E ++ E') (n + 1) := {
  f := by have := putF_length F k d; have := h.f; omega
  fn := fun p hp => by
    rcases mem_put hp with rfl | hp
    · exact ⟨hk, hd⟩
    · exact h.fn p hp
  e := by rw [List.length_append]; have := h.e; omega
  el := fun e he => by
    rcases List.mem_append.1 he with he | he
    · exact h.el e he
    · exact hl e he }
theorem Sm.more {F : Fls} {E E' : List Ev} {n : Nat} (h : Sm F E n) (hE : E'.length ≤ 1) (hl : ∀ e ∈ E', e.l.length ≤ 20) : Sm F (E ++ E') (n + 1) := {
  f := by have := h.f; omega
  fn := h.fn
  e := by rw [List.length_append]; have := h.e; omega
  el := fun e he => by
    rcases List.mem_append.1 he with he | he
    · exact h.el e he
    · exact hl e he }
theorem Sm.opened {F : Fls} {E : List Ev} {n : Nat} (h : Sm F E n) (f : Txt) (m : Int) (hf : f.length ≤ 3000) : Sm (openF F f m) (E ++ openE F f m) (n + 1) := by
  have hE : (openE F f m).length ≤ 1 ∧ ∀ e ∈ openE F f m, e.l.length ≤ 20 := by
    unfold openE
    split
    · exact ⟨by simp, fun e he => by simp at he; subst he; simp⟩
    · split
      · exact ⟨by simp, fun e he => by simp at he; subst he; simp⟩
      · exact ⟨by simp, fun e he => by simp at he⟩
  unfold openF
  split
  · exact h.put (by omega) (by simp) hE.1 hE.2
  · split
    · exact h.put (by omega) (dat_bound h.fn f) hE.1 hE.2
    · exact h.more hE.1 hE.2
theorem Sm.written {F : Fls} {E : List Ev} {n : Nat} (h : Sm F E n) (f d : Txt) (hf : f.length ≤ 3000) : Sm (writeF F f d) (E ++ writeE F f d) (n + 1) := by
  have hE : (writeE F f d).length ≤ 1 ∧ ∀ e ∈ writeE F f d, e.l.length ≤ 20 := by
    unfold writeE
    split
    · exact ⟨by simp, fun e he => by simp at he⟩
    · exact ⟨by simp, fun e he => by simp at he; subst he; simp⟩
  unfold writeF
  split
  · exact h.more hE.1 hE.2
  · rename_i hn
    refine h.put (by omega) ?_ hE.1 hE.2
    simp only [Bool.or_eq_true, Bool.not_eq_true', not_or, Bool.not_eq_false] at hn
    obtain ⟨⟨h1, h2⟩, h3⟩ := hn
    unfold writeB at h3
    simp only [Bool.or_eq_true, decide_eq_true_eq] at h3
    rw [List.length_append]
    rcases h3 with (h3 | h3) | h3
    · exact absurd h3 h1
    · exact absurd h3 h2
    · omega
theorem Sm.marked {F : Fls} {E : List Ev} {n : Nat} (h : Sm F E n) (a b : Int) : Sm F (E ++ marked a b) (n + 1) := by
  refine h.more ?_ ?_
  · unfold Proofs.YthhghkjgffcpeaaDoor.marked
    split <;> simp
  · intro e he
    unfold Proofs.YthhghkjgffcpeaaDoor.marked at he
    split at he
    · simp at he; subst he; simp
    · simp at he
end Go.Proofs.YthhghkjgffcpeaaDoor
